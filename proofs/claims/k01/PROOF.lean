import PyProof.Rows.All
import Wide.All
import OpenK.AllK
import Wide.FinOn
import HandS.ForMost
import HandS.Exc
import HandS.ExcOwn
import HandS.ExcInit
import HandS.ExcValue
import HandS.Defaults
import HandS.IsInst
import KE.KExcInit
import HandS.Wide
import HandS.Codes
import HandS.ExcField
import HandS.ExcIs
import KE.KExcIs
import HandS.HeadHook1
import HandS.HeadHook2
import HandS.Zip
import KE.GoesNew
import HandS.StrMore
import HandS.GenList
import KE.GoesMore
import KE.KDictZip
import HandS.RepeatKit
import HandS.Conv
import HandS.Style
import HandS.Text
import HandS.Walk
import HandS.Iter
import HandS.List
import HandS.Set
import HandS.SetFor
import HandS.Strs
import PyProof.Rows.SortShellAny
import PyProof.StrWalks
import HandS.SortKw
import KE.SortKeyHeap
import PyProof.ListStr
import PyProof.StrOps
import PyProof.NeKinds
import PyProof.FString5
import HandS.Comp
import PyProof.StrOps2
import HandS.Dict
import KE.KDictDisplayH
import PyProof.ReprRoads
import PyProof.ReprLen
import PyProof.Rows.StrCut
import HandS.Star
import HandS.More
import HandS.HotCalls
import HandS.HeadWalk
import HandS.EndTab
import HandS.Lambda
import HandS.TupMul
import PyProof.Rows.StrClose
import HandS.NoneIn
import HandS.Head0
import HandS.Head1
import HandS.Head2
import HandS.HeadHook4
import HandS.HeadEnd
import PySem.Challenge.RW_fewmarks_k01_words_and_delays
set_option Elab.async false
set_option linter.all false
-- FmExc
set_option maxRecDepth 100000
set_option maxHeartbeats 4000000
/-! KeyError, which the library leaves out, and own exceptions over any built-in base, as values. -/
namespace PySem
namespace F
theorem fm_pass_KeyError (self : Value) : refuseLoop self "__setattr__"
    [.type "KeyError", .type "LookupError", .type "Exception", .type "BaseException", .type "object"] = pure () := by kernel_rfl
end F
namespace FX
open Builtin Builtin.ObjectAttr PySem.Calls PyProof.Rows HandSPX
section
variable {M : Model} {prog : Program} {w : World} {A : Around} {E : Value → Shared → Prop} {R : Result → Shared → Prop}
  {h : Heap} {gn : Array GenState} {dr : Drawn} {tk : Nat} {os : OsState}
variable {nm qn : Str} {C N : Addr} {bs bm bB : List Value} {hd : Bool} {sn : List Str} {sb : List Value} {ab : Bool}
  {col : Option Bool} {dd : Option Addr} {k0 k1 k2 k3 k5 : Option Value} {B nI iI : String}
/-- what is asked of the class's chain: the maker's class is in it, AttributeError and NameError are not -/
structure Chain (B : String) (bm : List Value) : Prop where
  hasB : bm.contains (.type B) = true
  noA : bm.contains (.type "AttributeError") = false
  noN : bm.contains (.type "NameError") = false
theorem Chain.cB (c : Chain B bm) : (Value.ref C :: bm).contains (.type B) = true := by
  rw [List.contains_cons, c.hasB, Bool.or_true]
theorem Chain.cA (c : Chain B bm) : (Value.ref C :: bm).contains (.type "AttributeError") = false := by
  rw [List.contains_cons, c.noA]; rfl
theorem Chain.cN (c : Chain B bm) : (Value.ref C :: bm).contains (.type "NameError") = false := by
  rw [List.contains_cons, c.noN]; rfl
theorem chk_new (F : ExcBaseFacts B nI iI bB) (c : Chain B bm) {us : List Value} {Q : Unit → Shared → Prop}
    (hC : h.get? C = some (excClassObj nm qn C N bs bm hd sn sb ab col dd k0 k1 k2 k3 k5 nI))
    (hq : Q () ⟨h, gn, dr, tk, os⟩) : wpAny M A (checkBuiltinCall nI ⟨.ref C :: us, []⟩) Q E ⟨h, gn, dr, tk, os⟩ := by
  have z1 : (Value.ref C :: bm).contains (.type B) = true := c.cB
  have z2 := F.noStar
  simp only [checkBuiltinCall, F.newSplit, F.newRow, F.newKind]
  repeat (first
    | refine wpAny_loadPart_at hC ?_
    | (refine wpAny_isSubtype_exc hC ?_; rw [z1])
    | refine wpAny_staticBase_exc hC ?_
    | refine wpAny_madeBy_exc hC ?_
    | simp only [bne_self_eq_false, if_false, Bool.false_eq_true]
    | wp_step)
  exact hq
theorem run_new (F : ExcBaseFacts B nI iI bB) (c : Chain B bm) {us : List Value}
    (hC : h.get? C = some (excClassObj nm qn C N bs bm hd sn sb ab col dd k0 k1 k2 k3 k5 nI)) (hz : us.length ≤ sizeLine)
    (hq : R (.ok (.ret (.ref (h.objs.size + 1)))) ⟨(h.push (W.kdv_tup us)).push (excO C h.objs.size), gn, dr, tk, os⟩) :
    codeAny (model prog w) A (.builtin nI ⟨.ref C :: us, []⟩) R ⟨h, gn, dr, tk, os⟩ := by
  have z0 := F.ends
  have z1 : (Value.ref C :: bm).contains (.type B) = true := c.cB
  have z2 : (Value.ref C :: bm).contains (.type "AttributeError") = false := c.cA
  have z3 : (Value.ref C :: bm).contains (.type "NameError") = false := c.cN
  refine codeAny_builtinAt F.entry ?_
  (unfold Builtin.«BaseException.__new__»; refine wpAt_bind ?_)
  (show wpAt _ _ _ (stack >>= _) _ _ _; refine wpAt_bind (wpAt_stack fun p below => wpAt_of_wpAny ?_))
  (wp_walk; refine wpAt_of_wpAny ?_; rw [F.owner])
  repeat (first
    | with_reducible refine wpAny_madeHere_exc F.canon hC ?_
    | with_reducible refine wpAny_loadPart_at hC ?_
    | (with_reducible refine wpAny_isSubtype_exc hC ?_; first | rw [z1] | rw [z2] | rw [z3])
    | wp_step)
  (show R _ _; rw [Heap.size_push]; exact hq)
theorem run_tcall (F : ExcBaseFacts B nI iI bB) (c : Chain B bm) {us : List Value} {fI : Addr} {Q : Fin → Shared → Prop}
    (hC : h.get? C = some (excClassObj nm qn C N bs bm hd sn sb ab col dd k0 k1 k2 k3 k5 nI)) (hz : us.length ≤ sizeLine)
    (hi : W.Looks (model prog w) h (typeLookup (.ref C) "__init__") (some (.ref fI)))
    (hb : ∀ self, W.Looks (model prog w) h (bindSpecial (.ref fI) self) (.ref fI, [self]))
    (hq : codeAny (model prog w) A (.call (.ref fI) ⟨.ref (h.objs.size + 1) :: us, []⟩)
      (fun r s' => match r with
        | .ok (.ret v) => v = .none ∧ Q (.done (.ret (.ref (h.objs.size + 1)))) s'
        | .ok _ => False
        | .error e => E e s') ⟨(h.push (W.kdv_tup us)).push (excO C h.objs.size), gn, dr, tk, os⟩) :
    wpAny (model prog w) A (Builtin.«type.__call__» ⟨.ref C :: us, []⟩) Q E ⟨h, gn, dr, tk, os⟩ := by
  repeat (first
    | with_reducible refine wpAny_loadPart_at hC ?_
    | with_reducible refine wpAny_madeBy_exc hC ?_
    | wp_step)
  refine codeAny_call_builtin_code (Code.quiet_builtin _ F.quiet) (chk_new F c hC (run_new F c hC hz ?_))
  show wpAny _ _ _ _ _ _
  have kp : ∀ b o, h.get? b = some o → ((h.push (W.kdv_tup us)).push (excO C h.objs.size)).get? b = some o :=
    fun b o e => Heap.get?_push_of_some _ (Heap.get?_push_of_some _ e)
  have hC1 := kp _ _ hC
  have hx : ((h.push (W.kdv_tup us)).push (excO C h.objs.size)).get? (h.objs.size + 1) = some (excO C h.objs.size) := by
    heap_get
  have hcc : (Value.ref C :: bm).contains (.ref C) = true := by simp
  have i1 := hi.keeps kp
  have b1 := (hb (.ref (h.objs.size + 1))).keeps kp
  unfold isInstance
  repeat (first
    | with_reducible refine wpAny_loadPart_at hx ?_
    | (with_reducible refine wpAny_isSubtype_exc hC1 ?_; rw [hcc])
    | wp_step)
  (show wpAny _ _ (typeLookup (.ref C) _) _ _ _; refine i1.at (wpAny_holding (wpAny_bind (b1.at ?_))))
  refine wpAny_bind (wpAny_call (codeAny_mono hq fun r s' y => ?_))
  cases r with
  | error e => exact y
  | ok fl =>
    cases fl with
    | ret v =>
      obtain ⟨rfl, y⟩ := y
      first | exact wpAny_pure (wpAny_pure y) | (wp_walk; exact y)
    | next => exact y.elim
    | brk => exact y.elim
    | cont => exact y.elim
theorem run_call (F : ExcBaseFacts B nI iI bB) (c : Chain B bm) {us : List Value} {fI : Addr}
    (hC : h.get? C = some (excClassObj nm qn C N bs bm hd sn sb ab col dd k0 k1 k2 k3 k5 nI)) (hz : us.length ≤ sizeLine)
    (hi : W.Looks (model prog w) h (typeLookup (.ref C) "__init__") (some (.ref fI)))
    (hb : ∀ self, W.Looks (model prog w) h (bindSpecial (.ref fI) self) (.ref fI, [self]))
    (hq : codeAny (model prog w) (A.under (.builtin "type.__call__" ⟨.ref C :: us, []⟩)) (.call (.ref fI) ⟨.ref (h.objs.size + 1) :: us, []⟩)
      (W.InitBack (h.objs.size + 1) R) ⟨(h.push (W.kdv_tup us)).push (excO C h.objs.size), gn, dr, tk, os⟩) :
    codeAny (model prog w) A (.call (.ref C) ⟨us, []⟩) R ⟨h, gn, dr, tk, os⟩ := by
  have f1 := tc_lookup
  have f2 := tc_bind (.ref C)
  have ty : (⟨h, gn, dr, tk, os⟩ : Shared).TypeIs (.ref C) "type" := ⟨_, hC, rfl⟩
  refine codeAny_of_tree ?_
  show wpAny _ _ (callAny (.ref C) _) _ _ _
  repeat (any_goals (first | assumption | with_reducible refine wpAny_loadPart_at hC ?_ | wp_step))
  refine ⟨rfl, codeAny_call_builtin_at (Code.quiet_builtin _ (by decide +kernel)) entry_typeCall
    (wpAny_check_type_call_sub hC (run_tcall F c hC hz hi hb (codeAny_mono hq fun r s' y => ?_)))⟩
  rcases r with e | (v | _ | _ | _)
  all_goals exact y
/-- self.f = v on a fresh exception, whatever its base is -/
theorem osaG {K : W.Frag} {f : Str} {t1 : Tok} {v : Value} {x : Addr} {fv : Array Value} {cd : ClassData} (X : K.In h)
    (hx : h.get? x = some { cls := .ref C, data := .fields fv }) (hcd : W.clsIn K C = some cd) (ne : cd.mro.isEmpty = false)
    (ho : cd.mro.contains (.type "object") = true) (hp : refuseLoop (.ref x) "__setattr__" cd.mro = pure ()) (hh : cd.hasDict = true)
    (ha : W.findIn K (.ref C) f = some none)
    (hq : ∀ h' t' dx, (∀ b o, b ≠ x → h.get? b = some o → h'.get? b = some o) → h.objs.size ≤ dx → dx ≠ x →
      h'.get? x = some { cls := .ref C, dict := some dx, data := .fields fv } →
      h'.Ns1 dx (fun y => if y = f then some v else none) → R (.ok (.ret .none)) ⟨h', gn, dr, t', os⟩) :
    codeAny (model prog w) A (.call (.builtin "object.__setattr__") ⟨[.ref x, .str f t1, v], []⟩) R ⟨h, gn, dr, tk, os⟩ := by
  have I : W.InstAt h x { cls := .ref C, data := .fields fv } C none := ⟨hx, rfl, rfl, trivial⟩
  have hxs : x ≠ h.objs.size := Nat.ne_of_lt (Heap.lt_size hx)
  have sub : W.Looks (model prog w) h (isInstance (.ref x) (.type "object")) true :=
    I.type.andThen (W.looks_mroIn X (by unfold W.mroIn; rw [hcd, Option.bind_some, if_neg (by rw [ne]; decide), ho]))
  refine codeAny_call_builtin F.store_object.slot.plain F.store_object.entry
    (@W.check_slot (model prog w) _ _ ⟨h, gn, dr, tk, os⟩ "object.__setattr__" "object" "__setattr__" (.ref x) [.str f t1, v] [] _
      F.store_object.kind F.store_object.split sub (F.store_object.args (.ref x) (.str f t1) v) ?_)
  have m1 : W.Looks (model prog w) h (mroOf (.ref C)) cd.mro := (W.looks_clsIn X hcd).andThen .now
  have m2 : W.Looks (model prog w) h (storeTaker? none) none := .now
  have m3 : W.Looks (model prog w) h (classData C) cd := W.looks_clsIn X hcd
  (rw [W.osa_eq, refuse_eq]; refine wpAny_bind (wpAny_bind (I.type.at (wpAny_bind (m1.at ?_)))); rw [hp])
  refine wpAny_pure (wpAny_bind (I.type.at (wpAny_bind ((W.looks_findIn X ha).at (wpAny_bind (m2.at ?_))))))
  show wpAny _ _ (storeInOwnDict (.ref x) (.ref C) (.str f t1) f v false) _ _ _
  obtain ⟨nm', bs', mro', ns', qn', hd', sn', sb', ab', col', dl'⟩ := cd
  (dsimp only at hh; subst hh; unfold storeInOwnDict ownDictForStores)
  repeat (first
    | with_reducible refine store_in_new ?_ ?_
    | with_reducible refine wpAny_loadPart_at hx ?_
    | with_reducible refine m3.at ?_
    | wp_step)
  · exact ⟨_, #[], _, (Heap.get?_update_ne _ _ _ _ hxs.symm).trans (Heap.get?_push_at rfl rfl), rfl,
      fun e he => absurd he (by simp), fun _ => rfl⟩
  · intro h' t' hn sm
    have hx1 : (h.push { cls := .type "dict", data := .dict #[] }).get? x = some { cls := .ref C, data := .fields fv } :=
      Heap.get?_push_of_some _ hx
    refine hq h' t' h.objs.size (fun b o hb e => ?_) (Nat.le_refl _) hxs.symm ?_ hn
    · exact (sm.2 b (Nat.ne_of_lt (Heap.lt_size e))).trans
        ((Heap.get?_update_ne _ _ _ _ hb).trans (Heap.get?_push_of_some _ e))
    · exact (sm.2 x hxs).trans (Heap.get?_update_self _ hx1 rfl)
end
end FX
end PySem
-- FmBase
set_option maxRecDepth 100000
set_option maxHeartbeats 4000000
namespace FM
open PySem PySem.Spec PyProof.Rows L2
section
variable {X : Cx}
/-- int(n), int(b) -/
def rIntIB : List V → Hp → VK → Prop := fun xs H Q => (∃ i, xs = [.int i] ∧ Q (.int i) H) ∨ (∃ b : Bool, xs = [.bl b] ∧ Q (.int (if b then 1 else 0)) H)
theorem call_intIB : CallR X (.type "int") rIntIB := by
  intro pins s σ H xs us Q I r h
  rcases h with ⟨i, rfl, q⟩ | ⟨b, rfl, q⟩
  · obtain ⟨u1, rfl, r1⟩ := vals1 r
    obtain ⟨t, rfl⟩ := r1
    exact call_int_int ⟨.int i, H, I, ⟨t, rfl⟩, q⟩
  · obtain ⟨u1, rfl, r1⟩ := vals1 r
    cases r1
    exact call_int_bool ⟨.int (if b then 1 else 0), H, I.tok _, ⟨_, rfl⟩, q⟩
/-- a ** b, told by bits -/
def CPowW (i j : Int) : Prop := 0 ≤ j ∧ (Builtin.Int.intBits i : Int) * j ≤ 2 ^ 27
theorem op_powW : OpR X (binaryOp .Pow) (rI CPowW fun i j => .int (i ^ j.toNat)) := opI fun _ _ _ _ _ _ _ hc q => pow_int hc.1 hc.2 q
end
end FM
-- FmExc2
set_option maxRecDepth 100000
set_option maxHeartbeats 4000000
namespace FM
open PySem PySem.Spec PyProof.Rows L2
/-- what the written part says of an own exception class whose __init__ stores fields -/
structure OxC (K : PySem.W.Frag) (C : Addr) : Prop where
  cls : ∃ (B nI iI : String) (bB bm : List Value), ExcBaseFacts B nI iI bB ∧ PySem.FX.Chain B bm ∧
    bm.contains (.type "object") = true ∧ (∀ self, refuseLoop self "__setattr__" (.ref C :: bm) = pure ()) ∧
    ∃ nm q N bs sn sb ab col dd k0 k1 k2 k3 k5, K.lookup C = some (excClassObj nm q C N bs bm true sn sb ab col dd k0 k1 k2 k3 k5 nI)
  sa : PySem.W.findIn K (.ref C) "__setattr__" = some (some (.builtin "object.__setattr__"))
  ga : PySem.W.findIn K (.ref C) "__getattribute__" = some (some (.builtin "BaseException.__getattribute__"))
  gg : PySem.W.findIn K (.ref C) "__getattr__" = some none
  exC : PySem.W.subIn K (.ref C) (.type "BaseException") = some true
  tyC : PySem.W.typeIn K (.ref C) = some (.type "type")
  kC : PySem.W.keepIn K (.ref C) = true
  hdC : PySem.W.hasDictIn K C = true
section
variable {X : Cx} {pins : List (Addr × Obj)} {σ : L2.St} {H : Hp} {s : Shared} {a C dx : Addr} {f : Str} {y : V} {u : Value} {fs : List (Str × V)}
  {Q : Unit → Shared → Prop} {E : Value → Shared → Prop} {A : Around}
/-- the first field of a fresh exception is stored -/
theorem st_new (T : OxC X.K C) (I : Inv X pins σ H s) (e : H a = some (exo a C none))
    (hno : PySem.W.findIn X.K (.ref C) f = some none) (ry : RelV y u)
    (h : ∀ dx s', H dx = none → dx ≠ a → Inv X pins σ (upd (upd H dx (exd dx [(f, y)])) a (exo a C (some dx))) s' → Q () s') :
    wpAny (model X.prog X.w) A (setAttr (.ref a) f u) Q E s := by
  obtain ⟨B, nI, iI, bB, bm, F, ch, ho, hp, nm, q, N, bs, sn, sb, ab, col, dd, k0, k1, k2, k3, k5, hC⟩ := T.cls
  have hcl : ∃ cd, PySem.W.clsIn X.K C = some cd ∧ cd.mro = .ref C :: bm ∧ cd.hasDict = true := by
    refine ⟨_, by unfold PySem.W.clsIn; rw [hC], rfl, rfl⟩
  obtain ⟨cd, hcd, hm, hh⟩ := hcl
  obtain ⟨t1, hx0⟩ := exo_at I.hok e
  obtain ⟨hh0, g, d, t, os⟩ := s
  refine PySem.W.set_plain I.kIn (od := none) ⟨hx0, rfl, rfl, trivial⟩ T.sa ?_
  refine PySem.FX.osaG I.kIn hx0 hcd (by rw [hm]; rfl) (by rw [hm, List.contains_cons, ho, Bool.or_true]) (by rw [hm]; exact hp _) hh hno
    (fun h' t' dx kp dn dne hx hn => ?_)
  have nD : H dx = none := I.hok.fresh dn
  have lt : ∀ {b : Addr} {o : Obj}, hh0.get? b = some o → b ≠ dx := fun q =>
    Nat.ne_of_lt (Nat.lt_of_lt_of_le (Heap.lt_size q) dn)
  have nA : ∀ {b : Addr}, H b = none → b ≠ a := fun {b} n z => by
    rw [z, e] at n
    cases n
  have U : Un X.fs [] H (upd (upd H dx (exd dx [(f, y)])) a (exo a C (some dx))) hh0 h' :=
    { keep := fun b o q n _ _ => kp b o (nA n) q
      slot := fun b o q n _ _ => ⟨_, kp b o (nA n) q⟩
      free := fun b o q n _ => by
        rw [upd_ne (nA n), upd_ne (lt q)]
        exact n
      there := fun b o q _ => by
        by_cases hb : b = a
        · subst hb
          exact ⟨_, hx⟩
        · exact ⟨_, kp b o hb q⟩
      tups := fun b xs q => by
        rw [upd_ne (at_ne e q exo_tup), upd_ne (ne_of_none q nD)]
        exact q
      frzs := fun b o v q => by
        rw [upd_ne (at_ne e q exo_frz), upd_ne (ne_of_none q nD)]
        exact q
      tbls := fun b ps q => ⟨#[], by
        rw [upd_ne (at_ne e q exo_tbl), upd_ne (ne_of_none q nD), q]
        simp⟩ }
  refine h dx _ nD dne (I.un (t' := t') U fun b o q => ?_)
  by_cases hb : b = a
  · subst hb
    cases upd_same.symm.trans q
    exact exo_ok hx
  rw [upd_ne hb] at q
  by_cases hd : b = dx
  · subst hd
    cases upd_same.symm.trans q
    exact exd_ok hn (relO_put (fs := []) ry fun g => True.intro)
  rw [upd_ne hd] at q
  refine (I.hok b o q).stay (fun c v hc z => kp c v ?_ z) (fun c hc => ?_) (fun c xs hc => ?_)
  · rcases hc with hc | hc
    · exact fun w => hb (hc ▸ w)
    · exact at_ne e hc exo_own
  · rw [upd_ne (at_ne e hc exo_own), upd_ne (ne_of_none hc nD)]
    exact hc
  · rw [upd_ne (at_ne e hc exo_tup), upd_ne (ne_of_none hc nD)]
    exact hc
end
/-- self.f = e in such an __init__ -/
def tOsx (K : PySem.W.Frag) (f : Str) (to te : TE) : TS := fun D σ H => te σ H fun y H1 => to σ H1 fun x H2 => ∃ a C : Addr,
  x = .ref a ∧ OxC K C ∧ PySem.W.findIn K (.ref C) f = some none ∧ H2 a = some (exo a C none) ∧
  ∀ dx, H2 dx = none → dx ≠ a → D.nx σ (upd (upd H2 dx (exd dx [(f, y)])) a (exo a C (some dx)))
section
variable {X : Cx} {o e : Expr} {es : List Expr} {to te : TE} {ta : TA} {f : Str} {p p' p1 p2 pos : Pos}
theorem ps_osx (ho : PE X o to) (he : PE X e te) (hs : swapsWith e (some (.Attribute o f p')) pos.line X.env = pure false := by rfl) :
    PS X (.Assign [.Attribute o f p'] e pos) (tOsx X.K f to te) := by
  refine ⟨fun pins s σ H D I h => plainObj_wpAny_Assign_Attribute (thn (he.run pins s σ H _ I h) ?_) hs⟩
  rintro v s1 ⟨y, H1, I1, r1, q1⟩
  refine thn (ho.run pins s1 σ H1 _ I1 q1) ?_
  rintro u s2 ⟨x, H2, I2, r2, a, C, rfl, T, hno, ea, q⟩
  cases r2
  exact st_new T I2 ea hno r1 fun dx s' n ne J => ⟨σ, _, J, q dx n ne⟩
/-- an __init__(self, f) that stores its argument -/
def spInit1 (C : Addr) (f : Str) : Sp := fun vs H Q _ => ∃ (a : Addr) (v : V), vs = [.ref a, v] ∧ H a = some (exo a C none) ∧
  ∀ d, H d = none → d ≠ a → Q .non (upd (upd H d (exd d [(f, v)])) a (exo a C (some d)))
/-- C(e) held as a value -/
def tOxv (C : Addr) (f : Str) (te : TE) : TE := fun σ H Q => te σ H fun v H1 => ∀ a d, H1 a = none → H1 d = none → d ≠ a →
  Q (.ref a) (upd (upd H1 d (exd d [(f, v)])) a (exo a C (some d)))
theorem pe_oxv {x : Str} {C fI : Addr} {k : Nat} {fd : FuncData} {ps : List Str} (T : OxC X.K C)
    (iC : PySem.W.findIn X.K (.ref C) "__init__" = some (some (.ref fI))) (tI : PySem.W.typeIn X.K (.ref fI) = some (.type "function"))
    (F1 : FnOk X.prog X.w X.K X.mg X.base CX0 k fI fd ps (spInit1 C f)) (hr : Room (k + 1) X.A) (hb : Binds X.K fd ps [])
    (hg : Gl X x) (hm : X.mg x = some (.ref C)) (he : PE X e te) (hdb : (x == ("__debug__" : Str)) = false := by decide)
    (hs : starEach [e] X.env = (false, eval e X.env) :: starEach [] X.env := by rfl) :
    PE X (.Call (.Name x p) [e] [] pos) (tOxv C f te) := by
  refine ⟨fun pins s σ H Q I h => ?_⟩
  obtain ⟨B, nI, iI, bB, bm, F, ch, ho, hp, nm, q, N, bs, sn, sb, ab, col, dd, k0, k1, k2, k3, k5, hC⟩ := T.cls
  refine wpAny_Call_Name_kw (ld_glob I hg hm ?_ hdb)
  refine PySem.W.callWith_K (h₀ := X.base) I.ok.mod.kin T.kC ?_ hs (by rfl)
  rw [hs]
  show wpAny _ _ (spliced ((false, eval e X.env) :: backTo pos (starEach [] X.env))) _ _ s
  refine Calls.spliced_cons (thn (he.run pins s σ H _ I h) ?_)
  rintro u s1 ⟨v, H1, I1, r1, q1⟩
  refine Calls.spliced_nil ⟨I1.kIn, ?_⟩
  show wpAny _ _ (call (.ref C) [u]) _ _ _
  obtain ⟨hp1, g, dr, tk, os⟩ := s1
  have lt1 : hp1.objs.size ≤ hp1.objs.size + 1 := Nat.le_succ _
  have n1 : H1 (hp1.objs.size + 1) = none := I1.hok.fresh lt1
  have kp : ∀ b o, hp1.get? b = some o →
      ((hp1.push (PySem.W.kdv_tup [u])).push (PySem.HandSPX.excO C hp1.objs.size)).get? b = some o :=
    fun b o z => Heap.get?_push_of_some _ (Heap.get?_push_of_some _ z)
  have hx : ((hp1.push (PySem.W.kdv_tup [u])).push (PySem.HandSPX.excO C hp1.objs.size)).get? (hp1.objs.size + 1)
      = some (PySem.HandSPX.excO C hp1.objs.size) := by heap_get
  have I2 : Inv X pins σ (upd H1 (hp1.objs.size + 1) (exo (hp1.objs.size + 1) C none))
      ⟨(hp1.push (PySem.W.kdv_tup [u])).push (PySem.HandSPX.excO C hp1.objs.size), g, dr, tk, os⟩ :=
    I1.laid (t' := tk) kp lt1 (exo_ok hx)
  have r2 : Vals [V.ref (hp1.objs.size + 1), v] [Value.ref (hp1.objs.size + 1), u] := .cons rfl (.cons r1 .nil)
  have hq : spInit1 C f [V.ref (hp1.objs.size + 1), v] (upd H1 (hp1.objs.size + 1) (exo (hp1.objs.size + 1) C none))
      (fun w' H' => w' = .non ∧ Q (.ref (hp1.objs.size + 1)) H') (fun _ _ _ => False) := by
    refine ⟨_, v, rfl, upd_same, fun d nd ne => ⟨rfl, ?_⟩⟩
    rw [upd_ne ne] at nd
    have z := q1 (hp1.objs.size + 1) d n1 nd ne
    have e1 : upd (upd (upd H1 (hp1.objs.size + 1) (exo (hp1.objs.size + 1) C none)) d (exd d [(f, v)])) (hp1.objs.size + 1)
        (exo (hp1.objs.size + 1) C (some d)) = upd (upd H1 d (exd d [(f, v)])) (hp1.objs.size + 1) (exo (hp1.objs.size + 1) C (some d)) := by
      funext b
      by_cases hb : b = hp1.objs.size + 1
      · rw [hb, upd_same, upd_same]
      · rw [upd_ne hb, upd_ne hb]
        by_cases hd : b = d
        · rw [hd, upd_same, upd_same]
        · rw [upd_ne hd, upd_ne hd, upd_ne hb]
    rw [e1]
    exact z
  have hl : ([Value.ref (hp1.objs.size + 1), u] : List Value).length = ps.length := by
    have z := F1.len _ _ _ _ hq
    exact z
  refine wpAny_call (PySem.FX.run_call F ch (I1.kIn _ _ hC) (by show 1 ≤ sizeLine; decide) (PySem.W.looks_findIn I1.kIn iC)
    (fun self => PySem.W.bind_fn I1.kIn self tI) (codeAny_mono (F1.run _ X.stack _ _ ⟨[Value.ref (hp1.objs.size + 1), u], []⟩
      [Value.ref (hp1.objs.size + 1), u] _ _ (fun _ _ _ => False) (hr.make C [u] []) (I2.env0.make C [u] [])
      (by simpa using hb _ [Value.ref (hp1.objs.size + 1), u] I2.kIn (by simpa using hl)) r2 hq) fun r s' hq' => ?_))
  cases r with
  | error er => exact False.elim hq'
  | ok fl =>
    cases fl with
    | ret w' =>
      obtain ⟨z, H', J, rz, ez, q2⟩ := I2.after hq'
      subst ez
      exact ⟨rz, V.ref (hp1.objs.size + 1), H', J, rfl, q2⟩
    | next => exact False.elim hq'
    | brk => exact False.elim hq'
    | cont => exact False.elim hq'
end
end FM
-- FmExc3
set_option maxRecDepth 100000
set_option maxHeartbeats 4000000
namespace FM
open PySem PySem.Spec PyProof.Rows L2
/-- at a stands an exception of the class at D, as a value -/
def ExA (H : Hp) (a D : Addr) : Prop := H a = some (ExO (.ref D) a) ∨ ∃ d fs, H a = some (exo a D (some d)) ∧ H d = some (exd d fs)
/-- a is the exception that is handled, without a dict -/
def PinD (pn : List (Addr × Obj)) (a D : Addr) : Prop := ∃ oe : Obj, (a, oe) ∈ pn ∧ Zc (.ref D) none oe ∧ ∃ vs, oe.data = .fields vs
theorem inst_pin {X : Cx} {pins : List (Addr × Obj)} {σ : L2.St} {H : Hp} {s : Shared} {a D : Addr} (I : Inv X pins σ H s) (h : PinD X.pn a D) :
    ∃ (oe : Obj) (od : Option Obj), PySem.W.InstAt s.heap a oe D od := by
  obtain ⟨oe, hp, hz, vs, hd⟩ := h
  obtain ⟨hg, _⟩ := I.pin (a, oe) (List.mem_append.mpr (.inl hp))
  refine ⟨oe, none, hg, hz.1, ?_, by rw [hz.2]; trivial⟩
  unfold PySem.W.notCls
  rw [hd]
theorem inst_exa {X : Cx} {pins : List (Addr × Obj)} {σ : L2.St} {H : Hp} {s : Shared} {a D : Addr} (I : Inv X pins σ H s) (h : ExA H a D) :
    ∃ (oe : Obj) (od : Option Obj), PySem.W.InstAt s.heap a oe D od := by
  rcases h with h | ⟨d, fs, h, hd⟩
  · obtain ⟨⟨oe, vs, ho, hz, hdt, _⟩, _, _⟩ := I.hok a _ h
    refine ⟨oe, none, ho, hz.1, ?_, by rw [hz.2]; trivial⟩
    unfold PySem.W.notCls
    rw [hdt]
  · obtain ⟨t, ho⟩ := exo_at I.hok h
    obtain ⟨mA, ⟨o, es, ep, e1, _⟩, _⟩ := exd_at I.hok hd
    exact ⟨_, some o, ho, rfl, rfl, e1⟩
/-- isinstance(e, c) of an exception -/
def rIsX (K : PySem.W.Frag) (pn : List (Addr × Obj)) : List V → Hp → VK → Prop := fun xs H Q => ∃ (a D : Addr) (c : V) (cv : Value) (b : Bool), xs = [.ref a, c] ∧ ClsV c cv ∧
  (ExA H a D ∨ PinD pn a D) ∧ ExcC K D ∧ PySem.W.kitOne K (.ref D) cv = some b ∧ Q (.bl b) H
theorem call_isX {X : Cx} : CallR X (.builtin "isinstance") (rIsX X.K X.pn) := by
  intro pins s σ H xs us Q I r h
  obtain ⟨a, D, c, cv, b, rfl, k, hx, C, e, q⟩ := h
  obtain ⟨u1, u2, rfl, r1, r2⟩ := vals2 r
  have e2 := k.eq r2
  subst e2
  cases r1
  obtain ⟨oe, od, J⟩ : ∃ (oe : Obj) (od : Option Obj), PySem.W.InstAt s.heap a oe D od := hx.elim (inst_exa I) (inst_pin I)
  have hcl : (PySem.W.clsIn X.K D).isSome = true := by
    obtain ⟨cd, hc, _⟩ := PySem.W.any_some C.hd
    rw [hc]
    rfl
  exact PySem.W.kia_one (PySem.W.kitx_exc hcl C.hg C.hk C.hs C.ha C.hn C.ht C.hm) I.kIn J e (fun z => nomatch z)
    fun tk => ⟨.bl b, H, I.tok tk, rfl, q⟩
/-- e.f of an exception held as a value -/
def tXv (K : PySem.W.Frag) (f : Str) (te : TE) : TE := fun σ H Q => te σ H fun x H1 => ∃ (a C d : Addr) (fs : List (Str × V)) (v : V), x = .ref a ∧
  H1 a = some (exo a C (some d)) ∧ H1 d = some (exd d fs) ∧ XfC K C ∧ PySem.W.findIn K (.ref C) f = some none ∧ fs.lookup f = some v ∧ Q v H1
theorem pe_xv {X : Cx} {e : Expr} {te : TE} {pos : Pos} {n : Str} (he : PE X e te) (hb : attributeBase e n X.env (eval e X.env) = eval e X.env := by rfl) :
    PE X (.Attribute e n pos) (tXv X.K n te) := by
  refine ⟨fun pins s σ H Q I h => attr_of hb (thn (he.run pins s σ H _ I h) ?_)⟩
  rintro u s1 ⟨x, H1, I1, rx, a, C, d, fs, v, rfl, ha, hd, T, hno, l, q⟩
  cases rx
  obtain ⟨t, ho⟩ := exo_at I1.hok ha
  obtain ⟨mA, hns, hr⟩ := exd_at I1.hok hd
  obtain ⟨od, hod, hl⟩ := lookIn_ns hns
  obtain ⟨u, hu, ru⟩ := RelO.some_of (v := v) (o := mA n) (by rw [← l]; exact hr n)
  have J : PySem.W.InstAt s1.heap a _ C (some od) := ⟨ho, rfl, rfl, hod⟩
  exact HandSPX.exc_get I1.kIn J T.ga T.gg T.exC (PySem.W.findObj_own T.hdC hno rfl (by rw [hl, hu])) (handed_of ru)
    ⟨v, H1, I1.tok _, ru, q⟩
end FM
-- K1Base
set_option maxRecDepth 100000
set_option maxHeartbeats 4000000
namespace FM
open PySem L2
/-! lists of truths compared -/
theorem dpAll_bl {K : PySem.W.Frag} {H : Hp} : ∀ bs : List Bool, DpAll K H (bs.map V.bl) (bs.map PyData.bool)
  | [] => .nil
  | b :: r => .cons (.bl b) (dpAll_bl r)
theorem dp_bl {K : PySem.W.Frag} {H : Hp} {p : Addr} {bs : List Bool} (h : H p = some (.lst (bs.map V.bl))) : Dp K H (.ref p) (.list (bs.map PyData.bool)) := .lst (SqL.of h) (dpAll_bl bs)
theorem canAll_bl : ∀ bs : List Bool, PyData.canLayAll0 (bs.map PyData.bool) = true
  | [] => rfl
  | _ :: r => canAll_bl r
theorem depthAll_bl : ∀ bs : List Bool, PyData.depthAll (bs.map PyData.bool) ≤ 1
  | [] => by simp [PyData.depthAll]
  | _ :: r => by
    have := depthAll_bl r
    simp only [List.map_cons, PyData.depthAll, PyData.depth]
    omega
theorem shaped_bl (bs : List Bool) : SeqAt.shaped (.list (bs.map PyData.bool)) = true := by
  unfold SeqAt.shaped
  rw [Bool.and_eq_true]
  refine ⟨canAll_bl bs, decide_eq_true ?_⟩
  have := depthAll_bl bs
  simp only [PyData.depth]
  omega
/-- != of two lists of the same truths -/
theorem ne_bl {K : PySem.W.Frag} {H : Hp} {p q : Addr} {bs cs : List Bool} {Q : VK} (h1 : H p = some (.lst (bs.map V.bl))) (h2 : H q = some (.lst (cs.map V.bl))) (e : bs = cs) (k : Q (.bl false) H) : rNeD K (.ref p) (.ref q) H Q := by
  subst e
  refine ⟨_, _, dp_bl h1, dp_bl h2, shaped_bl bs, shaped_bl bs, ?_⟩
  rw [SeqAt.eqv_refl _ (SeqAt.canLay_of_shaped (shaped_bl bs))]
  exact k
/-- a for over enumerate(a list) -/
theorem for_enum {K : PySem.W.Frag} {a : Addr} {xs : List V} {g : TG} {tb : TS} {D : Ends} {σ : L2.St} {H : Hp} (Pv : Nat → L2.St → Hp → Prop) (h0 : Pv 0 σ H) (hl : ∀ i σ H, Pv i σ H → SqL K H a xs)
    (hs : ∀ i x σ H T, xs[i]? = some x → Pv i σ H → H T = none → g (.ref T) σ (upd H T (.tup [.int (i : Nat), x])) fun σ2 H2 => tb { D with nx := Pv (i + 1), ct := Pv (i + 1), bk := D.nx } σ2 H2)
    (hd : ∀ σ H, Pv xs.length σ H → D.nx σ H) :
    ∃ W : Nat → Nat → L2.St → Hp → Prop, (∃ m, W 0 m σ H) ∧ ∀ i m σ H, W i m σ H →
      ((Ite K a).stop i H ∧ D.nx σ H) ∨ ((Ite K a).go i H ∧ ∃ N : L2.St → Hp → Prop, (∀ σ' H', N σ' H' → ∃ m', m' < m ∧ W (i + 1) m' σ' H') ∧
        ∀ x H', (Ite K a).yld i H x H' → g x σ H' fun σ2 H2 => tb { D with nx := N, ct := N, bk := D.nx } σ2 H2) := by
  refine ⟨fun i m σ H => m = xs.length - i ∧ i ≤ xs.length ∧ Pv i σ H, ⟨_, rfl, Nat.zero_le _, h0⟩, ?_⟩
  rintro i m σ H ⟨rfl, hi, p⟩
  have q := hl i σ H p
  by_cases lt : i < xs.length
  · refine .inr ⟨⟨xs, xs[i], q, List.getElem?_eq_getElem lt⟩, Pv (i + 1), fun σ' H' p' => ⟨xs.length - (i + 1), by omega, rfl, lt, p'⟩, fun x H' y => ?_⟩
    obtain ⟨T, z, rfl, nT, rfl, hz⟩ := y
    exact hs i z σ H T (hz xs q) p nT
  · have e : i = xs.length := by omega
    subst e
    exact .inl ⟨⟨xs, q, Nat.le_refl _⟩, hd σ H p⟩
end FM
namespace K0
open PySem L2 FM He
def top (i : Nat) : Stmt := PySem.Challenge.pw_fewmarks_k01_words_and_delays.main.body.getD i (.Pass ⟨0, 0, 0, 0⟩)
abbrev FnP (K : PySem.W.Frag) (x : Str) (st : Stmt) (f : Addr) (fd : FuncData) : Prop := FunD K x x (defArgs st) (defBody st) (defScope st) [] [] f fd
abbrev FnQ (K : PySem.W.Frag) (q : Str) (st : Stmt) (f : Addr) (fd : FuncData) : Prop := FunD K "__init__" q (defArgs st) (defBody st) (defScope st) [] [] f fd
/-- the built-ins that any text here may name -/
structure TE (K : PySem.W.Frag) (mg : Str → Option Value) : Prop where
  b_isinstance : mg "isinstance" = none
  b_range : mg "range" = none
theorem same_upd {H : Hp} {p : Addr} {o : HO} (n : H p = none) : Same H (upd H p o) := fun b u h => by
  rw [upd_ne (ne_of_none h n)]
  exact h
theorem sqT_same {H H' : Hp} {a : Addr} {xs : List V} (e : Same H H') (h : SqT K H a xs) : SqT K H' a xs := by
  rcases h with (h | ⟨o, h⟩) | h
  · exact .inl (.inl (e _ _ h))
  · exact .inl (.inr ⟨o, e _ _ h⟩)
  · exact .inr h
theorem sqL_same {K : PySem.W.Frag} {H H' : Hp} {a : Addr} {xs : List V} (e : Same H H') (h : SqL K H a xs) : SqL K H' a xs := by
  rcases h with (h | ⟨o, h⟩) | h
  · exact .inl (.inl (e _ _ h))
  · exact .inl (.inr ⟨o, e _ _ h⟩)
  · exact .inr h
end K0
-- FmZip
set_option maxRecDepth 100000
set_option maxHeartbeats 4000000
/-! zip of two texts, sign by sign. -/
namespace FM
open PySem PySem.Spec PyProof.Rows L2
def ItzS (x y : Str) : It :=
  ⟨fun i _ => i < min x.cps.size y.cps.size,
   fun i H v H' => ∃ T c d, v = .ref T ∧ H T = none ∧ H' = upd H T (.tup [.str ⟨#[c]⟩, .str ⟨#[d]⟩]) ∧ x.cps[i]? = some c ∧ y.cps[i]? = some d,
   fun i _ => min x.cps.size y.cps.size ≤ i⟩
/-- how zip(x, y) stands ahead of turn i -/
abbrev zsTn (x y : Str) (t u : Tok) (z TI TO i1 i2 : Addr) (i : Nat) (h : Heap) : Prop :=
  IsZip h z TI TO .none ∧ IsTupOf2 h TI (.ref i1) (.ref i2) ∧ (∃ a1 a2, IsTupOf2 h TO a1 a2) ∧
    h.IsStrIter i1 (strIterType x) x t i ∧ h.IsStrIter i2 (strIterType y) y u i ∧ i ≤ min x.cps.size y.cps.size
theorem turn_zipS {P : Program} {w : World} {K : PySem.W.Frag} {elts : List Expr} {kk : Nat} {tpos : Pos} {x y : Str} {t u : Tok} {z TI TO i1 i2 : Addr}
    (S : ZipSep2 z TI TO i1 i2 [i1] [i2]) :
    Turn P w K (.Tuple elts kk tpos) (ItzS x y) (z :: TI :: TO :: ([i1] ++ [i2])) z (zsTn x y t u z TI TO i1 i2) where
  mem := List.mem_cons_self
  obj := fun i h st b hb => by
    obtain ⟨h1, h2, ⟨a1, a2, h3⟩, ⟨o4, e4, _, d4⟩, ⟨o5, e5, _, d5⟩, _⟩ := st
    have q : b = z ∨ b = TI ∨ b = TO ∨ b = i1 ∨ b = i2 := by simpa using hb
    rcases q with q | q | q | q | q
    · subst q; exact ⟨_, h1, fun v e => nomatch e⟩
    · subst q; exact ⟨_, h2, fun v e => nomatch e⟩
    · subst q; exact ⟨_, h3, fun v e => nomatch e⟩
    · subst q; exact ⟨o4, e4, fun v e => by rw [d4] at e; cases e⟩
    · subst q; exact ⟨o5, e5, fun v e => by rw [d5] at e; cases e⟩
  keep := fun i h h' st k => by
    obtain ⟨h1, h2, ⟨a1, a2, h3⟩, ⟨o4, e4, d4⟩, ⟨o5, e5, d5⟩, hle⟩ := st
    exact ⟨k z (by simp) _ h1, k TI (by simp) _ h2, ⟨a1, a2, k TO (by simp) _ h3⟩, ⟨o4, k i1 (by simp) _ e4, d4⟩, ⟨o5, k i2 (by simp) _ e5, d5⟩, hle⟩
  item := by
    intro X hP hw hK hc i pins s σ H E I hf st hg
    subst hP hw hK
    obtain ⟨h1, h2, h3, h4, h5, hle⟩ := st
    have hgi : i < min x.cps.size y.cps.size := hg
    have hh : X.A.in1.handled = none := I.ok.hd hc
    have G := GoesN.zip2 (elts := elts) (x1 := kk) (pos := tpos) S (Draws.text (prog := X.prog) (w := X.w) hh i1 x t) (Draws.text (prog := X.prog) (w := X.w) hh i2 y u)
    have sub : ∀ b, b ∈ [z, TO, i1, i2] → b ∈ z :: TI :: TO :: ([i1] ++ [i2]) := G.sub
    have lt : ∀ b ∈ z :: TI :: TO :: ([i1] ++ [i2]), b < s.heap.objs.size := fun b hb => by
      obtain ⟨a1, a2, h3'⟩ := h3
      obtain ⟨o4, e4, _⟩ := h4
      obtain ⟨o5, e5, _⟩ := h5
      have q : b = z ∨ b = TI ∨ b = TO ∨ b = i1 ∨ b = i2 := by simpa using hb
      rcases q with q | q | q | q | q
      · subst q; exact Heap.lt_size h1
      · subst q; exact Heap.lt_size h2
      · subst q; exact Heap.lt_size h3'
      · subst q; exact Heap.lt_size e4
      · subst q; exact Heap.lt_size e5
    refine wpAny_mono (G.goes i s (fun v s2 => ∃ x1 H', Inv X pins σ H' s2 ∧ RelV x1 v ∧ (ItzS x y).yld i H x1 H' ∧ zsTn x y t u z TI TO i1 i2 (i + 1) s2.heap ∧ ∀ b ∈ z :: TI :: TO :: ([i1] ++ [i2]), H' b = none) E hg
      ⟨h1, h2, h3, h4, h5⟩ fun v h' tk hy st' kp _ => ?_) (fun r s1 hr => ?_) fun _ _ q => q
    · obtain ⟨T, v1, v2, rfl, hT, ⟨c, u1, hc1, rfl⟩, ⟨d, u2, hd1, rfl⟩, hTup⟩ := hy
      obtain ⟨o, e, oc, n, od⟩ := hTup
      have hn : H T = none := I.hok.fresh hT
      have new : ObjOk X.prog X.w (upd H T (.tup [.str ⟨#[c]⟩, .str ⟨#[d]⟩])) h' T (.tup [.str ⟨#[c]⟩, .str ⟨#[d]⟩]) :=
        ⟨by show 2 ≤ sizeLine; decide, [_, _], .cons ⟨u1, rfl⟩ (.cons ⟨u2, rfl⟩ .nil), ⟨o, e, oc, n, od⟩⟩
      have J : Inv X pins σ (upd H T (.tup [.str ⟨#[c]⟩, .str ⟨#[d]⟩])) { s with heap := h', toks := tk } :=
        I.turnedNew (ch := [z, TO, i1, i2]) kp (fun b hb => hf b (sub b hb)) hT new
      obtain ⟨g1, g2, g3, g4, g5⟩ := st'
      refine ⟨.ref T, _, J, rfl, ⟨T, c, d, rfl, hn, rfl, hc1, hd1⟩, ⟨g1, g2, g3, g4, g5, hgi⟩, fun b hb => ?_⟩
      rw [upd_ne (Nat.ne_of_lt (Nat.lt_of_lt_of_le (lt b hb) hT))]
      exact (hf b hb).1
    · obtain ⟨v, rfl, q⟩ := hr
      exact ⟨v, rfl, q⟩
  done := by
    intro X hP hw hK hc i pins s σ H E I hf st hg
    subst hP hw hK
    obtain ⟨h1, h2, h3, h4, h5, hle⟩ := st
    have hg' : min x.cps.size y.cps.size ≤ i := hg
    have ei : i = min x.cps.size y.cps.size := by omega
    subst ei
    have hh : X.A.in1.handled = none := I.ok.hd hc
    have G := GoesN.zip2 (elts := elts) (x1 := kk) (pos := tpos) S (Draws.text (prog := X.prog) (w := X.w) hh i1 x t) (Draws.text (prog := X.prog) (w := X.w) hh i2 y u)
    have sub : ∀ b, b ∈ [z, TO, i1, i2] → b ∈ z :: TI :: TO :: ([i1] ++ [i2]) := G.sub
    exact G.stops s (fun s1 => Inv X pins σ H s1) E ⟨h1, h2, h3, h4, h5⟩ fun h' tk kp _ => I.turnedL (ch := [z, TO, i1, i2]) kp fun b hb => hf b (sub b hb)
  self := fun A i s Q E st h => wpAny_pyIter_zip st.1 h
def iZipS (ta : TA) : TI := fun σ H R => ta σ H fun vs H1 => ∃ x y : Str, vs = [.str x, .str y] ∧ R (ItzS x y) H1
theorem pi_zipS {X : Cx} {e e2 : Expr} {ta : TA} {p pos tpos : Pos} {elts : List Expr} {kk : Nat} (hg : Gl X "zip") (hm : X.mg "zip" = none) (ha : PA X [e, e2] ta)
    (hs : starEach [e, e2] X.env = (false, eval e X.env) :: starEach [e2] X.env := by rfl) (hpl : (backTo pos (starEach [e2] X.env)).any (·.1) = false := by rfl) :
    PI X (.Tuple elts kk tpos) (.Call (.Name "zip" p) [e, e2] [] pos) (iZipS ta) := by
  refine ⟨fun pins s σ H R I h => Call_ (ld_blt I hg hm PyProof.Rows.boot_zip (PyProof.Rows.callWith_type1 (thn (ha.run pos pins s σ H _ I h) ?_) hs hpl))⟩
  rintro us s1 ⟨vs, H1, I1, r1, x, y, rfl, q⟩
  obtain ⟨u1, u2, rfl, ⟨t, rfl⟩, ⟨u, rfl⟩⟩ := vals2 r1
  have sep := zip_sep2 (N := s1.heap.objs.size) (fp1 := []) (fp2 := []) (fun b hb => nomatch hb) (fun b hb => nomatch hb)
  refine zip_begins2 (begins_text x t) (begins_text y u) trivial trivial fun h' hz hTI hTO g1 g2 hsz hk => wpAny_pyIter_zip hz ?_
  have I2 : Inv X pins σ H1 { s1 with heap := h' } := I1.kept (t' := s1.toks) hk
  refine ⟨_, _, _, _, H1, rfl, I2, turn_zipS (x := x) (y := y) (t := t) (u := u) sep, ⟨hz, hTI, ⟨_, _, hTO⟩, ⟨_, g1, rfl, rfl⟩, ⟨_, g2, rfl, rfl⟩, Nat.zero_le _⟩, fun c hc => ?_, q⟩
  have e' : c = s1.heap.objs.size + 4 ∨ c = s1.heap.objs.size + 2 ∨ c = s1.heap.objs.size + 3 ∨ c = s1.heap.objs.size ∨ c = s1.heap.objs.size + 1 := by simpa using hc
  have hle : s1.heap.objs.size ≤ c := by
    rcases e' with e' | e' | e' | e' | e'
    · rw [e']; exact Nat.le_add_right _ _
    · rw [e']; exact Nat.le_add_right _ _
    · rw [e']; exact Nat.le_add_right _ _
    · rw [e']; exact Nat.le_refl _
    · rw [e']; exact Nat.le_add_right _ _
  exact I1.fpOk hle (I1.hok.fresh hle)
end FM
-- FmWord
set_option maxRecDepth 100000
set_option maxHeartbeats 4000000
namespace FM
open PySem L2
def alpha : Str := "abcdefghijklmnopqrstuvwxyz"
/-- a string of letters -/
def isWord (z : Str) : Bool := decide (Txt.stripChars z alpha = "")
/-- a value of another type -/
def NotTy (K : PySem.W.Frag) (H : Hp) (x : V) (T : String) : Prop := ∃ t, TyX K H x t ∧ PySem.W.kitOne K t (.type T) = some false
theorem ty_tup {K : PySem.W.Frag} {H : Hp} {a : Addr} {xs : List V} (h : SqT K H a xs) : TyX K H (.ref a) (.type "tuple") := by
  rcases h with (h | ⟨o, h⟩) | ⟨o, its, n, h, hc, _⟩
  · exact .base (.tup h)
  · exact .fTuple h
  · exact .kTuple h hc
theorem dec_strV (a b : Str) : decide (V.str a = V.str b) = decide (a = b) := by
  by_cases h : a = b
  · rw [h]; simp
  · rw [decide_eq_false h, decide_eq_false fun z => h (V.str.inj z)]
theorem dec_intV (a b : Int) : decide (V.int a = V.int b) = decide (a = b) := by
  by_cases h : a = b
  · rw [h]; simp
  · rw [decide_eq_false h, decide_eq_false fun z => h (V.int.inj z)]
theorem tyX_same {K : PySem.W.Frag} {H H' : Hp} {x : V} {t : Value} (S : Same H H') (h : TyX K H x t) : TyX K H' x t := by
  cases h with
  | base b =>
    refine .base ?_
    cases b with
    | non => exact .non
    | bl y => exact .bl y
    | int i => exact .int i
    | str y => exact .str y
    | flt y => exact .flt y
    | lst e => exact .lst (S _ _ e)
    | frz e => exact .frz (S _ _ e)
    | tup e => exact .tup (S _ _ e)
    | dK e => exact .dK (S _ _ e)
    | dT e => exact .dT (S _ _ e)
    | ins e cl ha hn htk hm => exact .ins (S _ _ e) cl ha hn htk hm
  | byt y => exact .byt y
  | set e => exact .set (S _ _ e)
  | kList e c => exact .kList e c
  | kTuple e c => exact .kTuple e c
  | kDict e c => exact .kDict e c
  | fTuple e => exact .fTuple (S _ _ e)
  | fDict e => exact .fDict (S _ _ e)
theorem notTy_same {K : PySem.W.Frag} {H H' : Hp} {x : V} {T : String} (S : Same H H') (h : NotTy K H x T) : NotTy K H' x T := by
  obtain ⟨t, h1, h2⟩ := h
  exact ⟨t, tyX_same S h1, h2⟩
/-- a value, and whether it is a word -/
def WordV (K : PySem.W.Frag) (H : Hp) (y : V) (b : Bool) : Prop := (∃ z : Str, y = .str z ∧ z.length ≤ sizeLine ∧ isWord z = b) ∨ (NotTy K H y "str" ∧ b = false)
theorem wordV_same {K : PySem.W.Frag} {H H' : Hp} {y : V} {b : Bool} (S : Same H H') (h : WordV K H y b) : WordV K H' y b := h.imp id fun ⟨h, e⟩ => ⟨notTy_same S h, e⟩
end FM
-- FmGen
set_option maxRecDepth 100000
set_option maxHeartbeats 1000000
/-! A generator def that is woken step by step by any consumer: C are the consumer's own objects. -/
namespace FM
open PySem PySem.Spec PyProof.Rows L2 GenW
/-- while it sleeps the consumer's own objects may change, nothing else does -/
structure Nap (C : List Addr) (s t : Shared) : Prop where
  os : t.os = s.os
  bare : AllBare t.gens
  keep : ∀ b o, b ∉ C → s.heap.get? b = some o → t.heap.get? b = some o
  own : ∀ b ∈ C, ∃ o, t.heap.get? b = some o ∧ ∀ v, o.data ≠ .cell v
/-- the consumer's objects are none of the frame's, and younger than the call -/
def Far (X : Cx) (C : List Addr) : Prop := ∀ b ∈ C, X.s_0.heap.objs.size ≤ b ∧ b ≠ X.env.locals ∧ ∀ x c, X.env.cells.lookup x = some c → c ≠ b
/-- what each row of items is, and from how many items on nobody asks for more -/
structure Gd where
  ok : List V → Hp → Prop
  lim : Nat
/-- it runs: the consumer's objects stand as in h0 -/
def Up (X : Cx) (C : List Addr) (h0 : Heap) (ip : List (Addr × Obj)) (σ : L2.St) (H : Hp) (s : Shared) : Prop :=
  (∀ b ∈ C, ∃ o, h0.get? b = some o ∧ ∀ v, o.data ≠ .cell v) ∧ Inv X (pinsAt C h0 ++ ip) σ H s
section
variable {X : Cx} {C : List Addr} {Good : Gd} {h0 : Heap} {ip : List (Addr × Obj)} {σ : L2.St} {H : Hp} {s t : Shared}
theorem Up.at (h : Up X C h0 ip σ H s) {b : Addr} (hb : b ∈ C) : ∃ o, h0.get? b = some o ∧ s.heap.get? b = some o ∧ H b = none ∧ b ≠ X.env.locals ∧ b ∉ X.fs ∧ ∀ v, o.data ≠ .cell v := by
  obtain ⟨o, e, d⟩ := h.1 b hb
  obtain ⟨q1, q2, q3, q4, q5⟩ := h.2.pin (b, o) (List.mem_append_right _ (List.mem_append_left _ (mem_pinsAt hb e)))
  exact ⟨o, e, q1, q2, q3, q4, q5⟩
theorem Up.own (h : Up X C h0 ip σ H s) : Inv X ip σ H s :=
  h.2.pins_of fun p hp => h.2.pin p (List.mem_append_right _ (List.mem_append_right _ hp))
theorem Up.woken (hpn : ∀ p ∈ X.pn, p.1 ∉ C) (hip : ∀ p ∈ ip, p.1 ∉ C) (hF : Far X C) (h : Up X C h0 ip σ H s) (z : Nap C s t) : Up X C t.heap ip σ H t := by
  have I0 := h.own
  have nt : ∀ b u, H b = some u → b ∉ C := fun b u q hb => by
    obtain ⟨o, _, _, n, _⟩ := h.at hb
    rw [q] at n
    cases n
  have fsC : ∀ b ∈ C, b ∉ X.fs := fun b hb => by
    obtain ⟨o, _, _, _, _, n, _⟩ := h.at hb
    exact n
  obtain ⟨z1, z2, z3, z4⟩ := z
  obtain ⟨hh, g, d, tk, o⟩ := t
  have ho : o = s.os := z1
  subst ho
  have nL : X.env.locals ∉ C := fun hb => (hF _ hb).2.1 rfl
  have J : Inv X ip σ H { s with heap := hh, gens := g, drawn := d, toks := tk } := by
    refine I0.step (ch := C) (fun b hb => ⟨.inr (hF b hb).1, (hF b hb).2.1, (hF b hb).2.2, fun p hp e => ?_⟩)
      (fun b ob _ _ hc q _ => z3 b ob hc q) (fun b ob _ _ hc q _ => ⟨ob.slots, z3 b ob hc q⟩) (fun _ _ _ _ n => n)
      (fun b ob hc q => ⟨ob, z3 b ob hc q⟩) (fun _ _ q => q) (fun _ _ _ q => q) (fun b ps q => ⟨#[], by rw [q]; simp⟩) (fun m hm => ?_) (fun b u q => ?_) z2
    · rcases List.mem_append.mp hp with hp | hp
      · exact hpn p hp (e ▸ hb)
      · exact hip p hp (e ▸ hb)
    · obtain ⟨ob, es, ep, ho, r⟩ := hm
      exact ⟨ob, es, ep, z3 _ ob nL ho, r⟩
    · refine (I0.hok b u q).stay (fun c v hc y => z3 c v ?_ y) (fun _ y => y) fun _ _ y => y
      rcases hc with y | y
      · rw [y]; exact nt b u q
      · exact nt c _ y
  refine ⟨z4, J.pins_of fun p hp => ?_⟩
  rcases List.mem_append.mp hp with hp | hp
  · obtain ⟨hb, e⟩ := of_pinsAt hp
    obtain ⟨o', e', dd⟩ := z4 p.1 hb
    have e2 : hh.get? p.1 = some o' := e'
    rw [e] at e2
    cases e2
    obtain ⟨_, _, _, n, n2, n3, _⟩ := h.at hb
    exact ⟨e, n, n2, n3, dd⟩
  · exact J.pin p (List.mem_append_right _ hp)
/-! ### the protocol -/
def NY (X : Cx) (C : List Addr) (Good : Gd) : Protocol := fun n s₀ v s kap =>
  ∃ ys x ip σ H, n + 1 + ys.length = sizeLine ∧ RelV x v ∧ Up X C s₀.heap ip σ H s ∧ Good.ok (ys ++ [x]) H ∧ (ys.length + 1 < Good.lim → ∀ t, Nap C s t → kap (.send .none) t)
def NSP (X : Cx) (C : List Addr) (s₀ : Shared) (ip : List (Addr × Obj)) (D : GEnds) (ys : List V) (f : Flow) (s : Shared) : Prop :=
  match f with
  | .next => ∃ σ H, Up X C s₀.heap ip σ H s ∧ D.nx ys σ H
  | .brk => ∃ σ H, Up X C s₀.heap ip σ H s ∧ D.bk ys σ H
  | .cont => ∃ σ H, Up X C s₀.heap ip σ H s ∧ D.ct ys σ H
  | .ret u => ∃ v σ H, Up X C s₀.heap ip σ H s ∧ RelV v u ∧ D.rt ys v H
/-- where its code stands -/
structure NC (X : Cx) (C : List Addr) (ip : List (Addr × Obj)) (A : Around) (c : Code) (fs : List Frame) (gd : Bool → Bool) : Prop where
  pn : ∀ p ∈ X.pn, p.1 ∉ C
  ip : ∀ p ∈ ip, p.1 ∉ C
  far : Far X C
  over : A.over c fs = X.A
  split : splitAtGen fs = none
  guard : fs.any Frame.guarded = false
  gd : gd false = false
/-- what follows -/
structure NK (X : Cx) (C : List Addr) (Good : Gd) (ip : List (Addr × Obj)) (A : Around) (R : GenEnd) (c : Code) (fs : List Frame) (K : Flow → Sem PySem.Fin) (J : Value → Sem PySem.Fin) (D : GEnds) : Prop where
  ok : ∀ (n : Nat) (ys : List V) (s₀ s : Shared) (f : Flow), n + ys.length = sizeLine → NSP X C s₀ ip D ys f s → Seg (model X.prog X.w) A R (NY X C Good) n s₀ c (K f) fs s
  exc : ∀ (n : Nat) (s₀ : Shared) (e : Value) (s : Shared), X.xe e s → Seg (model X.prog X.w) A R (NY X C Good) n s₀ c (J e) fs s
structure NS (X : Cx) (C : List Addr) (Good : Gd) (st : Stmt) (tg : TGn) : Prop where
  run : ∀ {A : Around} {ip : List (Addr × Obj)} {R : GenEnd} {n : Nat} {ys : List V} {s₀ : Shared} {c : Code} {fs : List Frame} {K : Flow → Sem PySem.Fin} {J : Value → Sem PySem.Fin} {gd : Bool → Bool} {lv : List Value → List Value} {s : Shared} {σ : L2.St} {H : Hp} {D : GEnds},
    NC X C ip A c fs gd → n + ys.length = sizeLine → NK X C Good ip A R c fs K J D → Up X C s₀.heap ip σ H s → tg D ys σ H →
    Seg (model X.prog X.w) A R (NY X C Good) n s₀ c ((exec st X.env).wrap K J gd lv) fs s
structure NSs (X : Cx) (C : List Addr) (Good : Gd) (st : List Stmt) (tg : TGn) : Prop where
  run : ∀ {A : Around} {ip : List (Addr × Obj)} {R : GenEnd} {n : Nat} {ys : List V} {s₀ : Shared} {c : Code} {fs : List Frame} {K : Flow → Sem PySem.Fin} {J : Value → Sem PySem.Fin} {gd : Bool → Bool} {lv : List Value → List Value} {s : Shared} {σ : L2.St} {H : Hp} {D : GEnds},
    NC X C ip A c fs gd → n + ys.length = sizeLine → NK X C Good ip A R c fs K J D → Up X C s₀.heap ip σ H s → tg D ys σ H →
    Seg (model X.prog X.w) A R (NY X C Good) n s₀ c ((execs st X.env).wrap K J gd lv) fs s
variable {st : Stmt} {rest : List Stmt}
theorem nsp_of {s₀ : Shared} {D : GEnds} {ys : List V} {f : Flow} (hc : ∀ b ∈ C, ∃ o, s₀.heap.get? b = some o ∧ ∀ v, o.data ≠ .cell v) (h : SP X (pinsAt C s₀.heap ++ ip) (D.at ys) f s) : NSP X C s₀ ip D ys f s := by
  cases f with
  | next => obtain ⟨σ, H, I, q⟩ := h; exact ⟨σ, H, ⟨hc, I⟩, q⟩
  | brk => obtain ⟨σ, H, I, q⟩ := h; exact ⟨σ, H, ⟨hc, I⟩, q⟩
  | cont => obtain ⟨σ, H, I, q⟩ := h; exact ⟨σ, H, ⟨hc, I⟩, q⟩
  | ret u => obtain ⟨v, σ, H, I, r, q⟩ := h; exact ⟨v, σ, H, ⟨hc, I⟩, r, q⟩
/-- a statement that hands out nothing -/
theorem ns_ps {ts : TS} (h : PS X st ts) : NS X C Good st (tPlain ts) := by
  refine ⟨fun {A ip R n ys s₀ c fs K J gd lv s σ H D} g hn k hI ht => ?_⟩
  obtain ⟨hc, I⟩ := hI
  refine seg_wrap ?_
  rw [g.over]
  exact wpAny_mono (h.run _ s σ H (D.at ys) I ht) (fun f t hs => k.ok n ys s₀ t f hn (nsp_of hc hs)) fun x t hx => k.exc n s₀ x t hx
theorem nss_pss {ts : TS} (h : PSs X rest ts) : NSs X C Good rest (tPlain ts) := by
  refine ⟨fun {A ip R n ys s₀ c fs K J gd lv s σ H D} g hn k hI ht => ?_⟩
  obtain ⟨hc, I⟩ := hI
  refine seg_wrap ?_
  rw [g.over]
  exact wpAny_mono (h.run _ s σ H (D.at ys) I ht) (fun f t hs => k.ok n ys s₀ t f hn (nsp_of hc hs)) fun x t hx => k.exc n s₀ x t hx
theorem nss_nil : NSs X C Good [] tG0 := by
  refine ⟨fun {A ip R n ys s₀ c fs K J gd lv s σ H D} g hn k hI ht => ?_⟩
  exact seg_execs_nil (k.ok n ys s₀ s .next hn ⟨σ, H, hI, ht⟩)
theorem nss_cons {tg u : TGn} (a : NS X C Good st tg) (b : NSs X C Good rest u) : NSs X C Good (st :: rest) (tGThen tg u) := by
  refine ⟨fun {A ip R n ys s₀ c fs K J gd lv s σ H D} g hn k hI ht => ?_⟩
  refine seg_execs_cons ?_
  refine a.run (D := { D with nx := fun ys' σ' H' => u D ys' σ' H' }) g hn ⟨fun n' ys' s₀' s' f hn' hs => ?_, k.exc⟩ hI ht
  cases f with
  | next =>
    obtain ⟨σ', H', I', q⟩ := hs
    exact b.run g hn' k I' q
  | brk => exact k.ok n' ys' s₀' s' .brk hn' hs
  | cont => exact k.ok n' ys' s₀' s' .cont hn' hs
  | ret u => exact k.ok n' ys' s₀' s' (.ret u) hn' hs
theorem nss_one {tg : TGn} (a : NS X C Good st tg) : NSs X C Good [st] (tGThen tg tG0) := nss_cons a nss_nil
/-! ### yield -/
def tNYield (Good : Gd) (te : TE) : TGn := fun D ys σ H => ys.length < sizeLine ∧ te σ H fun x H1 => Good.ok (ys ++ [x]) H1 ∧ (ys.length + 1 < Good.lim → D.nx (ys ++ [x]) σ H1)
theorem ns_yield {e : Expr} {yp pos : Pos} {te : TE} (he : PE X e te) (hco : X.env.scope.isCoroutine = false := by rfl) (hi : interactive X.env = false := by rfl) : NS X C Good (.Expr (.Yield (some e) yp) pos) (tNYield Good te) := by
  refine ⟨fun {A ip R n ys s₀ c fs K J gd lv s σ H D} g hn k hI ht => ?_⟩
  obtain ⟨hlt, ht⟩ := ht
  obtain ⟨n, rfl⟩ : ∃ m, n = m + 1 := ⟨n - 1, by omega⟩
  obtain ⟨hc, I⟩ := hI
  refine seg_Expr_Yield g.split g.gd g.guard ?_ hco hi
  rw [g.over]
  refine wpAny_mono (he.run _ s σ H _ I ht) (fun v t hv => ?_) fun x t hx => k.exc _ s₀ x t hx
  obtain ⟨x, H1, I1, rv, hG, q⟩ := hv
  intro kap hk
  have U1 : Up X C s₀.heap ip σ H1 t := ⟨hc, I1⟩
  refine ⟨ys, x, ip, σ, H1, hn, rv, U1, hG, fun lt t2 z => hk .none t2 ?_⟩
  refine k.ok n (ys ++ [x]) t2 t2 .next ?_ ⟨σ, H1, U1.woken g.pn g.ip g.far z, q lt⟩
  rw [List.length_append, List.length_singleton]
  omega
/-! ### if -/
def tNIf (c : TT) (ta tb : TGn) : TGn := fun D ys σ H => c σ H fun b H1 => if b = true then ta D ys σ H1 else tb D ys σ H1
theorem ns_if {test : Expr} {body orelse : List Stmt} {pos : Pos} {tc : TT} {ta tb : TGn} (hc : PT X test tc) (ha : NSs X C Good body ta) (hb : NSs X C Good orelse tb) : NS X C Good (.If test body orelse pos) (tNIf tc ta tb) := by
  refine ⟨fun {A ip R n ys s₀ c fs K J gd lv s σ H D} g hn k hI ht => ?_⟩
  rw [exec_If]
  refine seg_bind_wrap (wpAny_standAt ?_)
  obtain ⟨hcc, I⟩ := hI
  refine seg_bind_wrap ?_
  rw [g.over]
  refine wpAny_mono (hc.run _ s σ H _ I ht) (fun b t hv => ?_) fun x t hx => k.exc n s₀ x t hx
  obtain ⟨H2, I2, q⟩ := hv
  cases b with
  | true => exact ha.run g hn k ⟨hcc, I2⟩ q
  | false => exact hb.run g hn k ⟨hcc, I2⟩ q
/-! ### loops -/
theorem nc_loop {A : Around} {c c' : Code} {fs : List Frame} {gd : Bool → Bool} {k : Result → Sem PySem.Fin} {l kp : List Value} {p : Pos} {ip' : List (Addr × Obj)} (g : NC X C ip A c fs gd) (hi : ∀ q ∈ ip', q.1 ∉ C) (hw : c'.weight = 0) (hu : c'.cUnits = 0) :
    NC X C ip' A c' (.ret k none (gd false) l c p kp :: fs) id where
  pn := g.pn
  ip := hi
  far := g.far
  over := (over_loop hw hu).trans g.over
  split := by
    show Option.map _ (splitAtGen fs) = none
    rw [g.split]
    rfl
  guard := by
    show (_ || List.any fs Frame.guarded) = false
    rw [g.gd, g.guard]
    rfl
  gd := rfl
theorem seg_back {A : Around} {R : GenEnd} {c : Code} {fs : List Frame} {K : Flow → Sem PySem.Fin} {J : Value → Sem PySem.Fin} {gd : Bool → Bool} {lv : List Value → List Value} {D : GEnds} {n : Nat} {s₀ : Shared} {e : Value}
    (g : NC X C ip A c fs gd) (k : NK X C Good ip A R c fs K J D) (h : cameBackBy (model X.prog X.w) X.A X.env X.xe e s) :
    Seg (model X.prog X.w) A R (NY X C Good) n s₀ c (((Sem.raise e : Sem Flow).onRaise (cameBack X.env)).wrap K J gd lv) fs s := by
  have e1 : (Sem.raise e : Sem Flow).onRaise (cameBack X.env) = (cameBack X.env e).bind fun _ => Sem.raise e := rfl
  rw [e1, Sem.bind_eq_wrap, Sem.wrap_wrap]
  refine seg_wrap ?_
  rw [g.over]
  exact wpAny_mono h (fun _ t hx => k.exc n s₀ e t hx) fun x t hx => k.exc n s₀ x t hx
/-- an exception within a loop's code leaves it -/
theorem seg_gone {A : Around} {R : GenEnd} {c c' : Code} {fs : List Frame} {K : Flow → Sem PySem.Fin} {J : Value → Sem PySem.Fin} {gd : Bool → Bool} {lv : List Value → List Value} {D : GEnds} {n : Nat} {s₀ : Shared} {x : Value} {p : Pos}
    (hp : PassesOwn (model X.prog X.w) X.A X.env X.xe) (g : NC X C ip A c fs gd) (hw : c'.weight = 0) (hu : c'.cUnits = 0) (k : NK X C Good ip A R c fs K J D) (hx : X.xe x s) :
    Seg (model X.prog X.w) A R (NY X C Good) n s₀ c' ((do noteFrame x X.env; theTreesLotGoes x : Sem Unit).wrap (fun _ => .raise x) .raise id id)
      (.ret (fun r => ((match r with | .ok f => (.pure f : Sem Flow) | .error e => .raise e).onRaise (cameBack X.env)).wrap K J gd lv) none (gd false) (lv []) c p [] :: fs) s := by
  refine seg_wrap ?_
  rw [(over_loop hw hu).trans g.over]
  refine wpAny_bind (wpAny_mono (hp x s hx) (fun _ t hcb => wpAny_theTreesLotGoes ?_) fun y t hcb => ?_)
  · exact seg_leaf (.error x) (seg_back g k hcb)
  · exact seg_leaf (.error y) (seg_back g k hcb)
theorem ns_while {test : Expr} {body : List Stmt} {pos : Pos} {tc : TT} {tb : TGn} (hp : PassesOwn (model X.prog X.w) X.A X.env X.xe) (hc : PT X test tc) (hb : NSs X C Good body tb) : NS X C Good (.While test body [] pos) (tGWhile tc tb) := by
  refine ⟨fun {A ip R n ys s₀ c fs K J gd lv s σ H D} g hn k hI ht => ?_⟩
  obtain ⟨W, ⟨m0, w0⟩, turn⟩ := ht
  refine seg_While fun p => ?_
  have gl := fun (kk : Result → Sem PySem.Fin) => nc_loop (k := kk) (c' := .whileLoop test body [] X.env) (l := lv []) (kp := []) (p := p) g g.ip rfl rfl
  suffices loop : ∀ (m n : Nat) (ys : List V) (s₀ s : Shared) (σ : L2.St) (H : Hp), n + ys.length = sizeLine → W m ys σ H → Up X C s₀.heap ip σ H s →
      Seg (model X.prog X.w) A R (NY X C Good) n s₀ (.whileLoop test body [] X.env) ((model X.prog X.w).den (.whileLoop test body [] X.env))
        (.ret (fun r => ((match r with | .ok f => (.pure f : Sem Flow) | .error e => .raise e).onRaise (cameBack X.env)).wrap K J gd lv) none (gd false) (lv []) c p [] :: fs) s from
    loop m0 n ys s₀ s σ H hn w0 hI
  intro m
  induction m using Nat.strongRecOn with
  | ind m ih =>
    intro n ys s₀ s σ H hn w hI
    refine seg_whileLoop ?_
    rw [(gl _).over]
    obtain ⟨hcc, I⟩ := hI
    refine wpAny_mono (hc.run _ s σ H _ I (turn m ys σ H w)) (fun b t hb' => ?_) fun x t hx => seg_gone hp g rfl rfl k hx
    obtain ⟨H2, I2, q2⟩ := hb'
    cases b with
    | true =>
      obtain ⟨N, hN, q2⟩ := q2
      rw [if_pos rfl]
      refine hb.run (D := { D with nx := N, ct := N, bk := D.nx }) (gl _) hn ⟨fun n' ys' s₀' s3 f hn' hs => ?_, fun n' s₀' x s3 hx => seg_gone hp g rfl rfl k hx⟩ ⟨hcc, I2⟩ q2
      cases f with
      | next =>
        obtain ⟨σ3, H3, I3, n3⟩ := hs
        obtain ⟨m', hm, w3⟩ := hN ys' σ3 H3 n3
        exact seg_again rfl (ih m' hm n' ys' s₀' s3 σ3 H3 hn' w3 I3)
      | cont =>
        obtain ⟨σ3, H3, I3, n3⟩ := hs
        obtain ⟨m', hm, w3⟩ := hN ys' σ3 H3 n3
        exact seg_again rfl (ih m' hm n' ys' s₀' s3 σ3 H3 hn' w3 I3)
      | brk => exact seg_leaf (.ok .next) (k.ok n' ys' s₀' s3 .next hn' hs)
      | ret v => exact seg_leaf (.ok (.ret v)) (k.ok n' ys' s₀' s3 (.ret v) hn' hs)
    | false =>
      rw [if_neg Bool.false_ne_true]
      refine seg_execs_nil ?_
      exact seg_leaf (.ok .next) (k.ok n ys s₀ t .next hn ⟨σ, H2, ⟨hcc, I2⟩, q2⟩)
def tNFor (wi : TI) (gt : TG) (tb : TGn) : TGn := fun D ys σ H => wi σ H fun J H1 => ∃ W : Nat → Nat → List V → L2.St → Hp → Prop, (∃ m, W 0 m ys σ H1) ∧ ∀ i m ys σ H, W i m ys σ H →
  (J.stop i H ∧ D.nx ys σ H) ∨ (J.go i H ∧ ∃ N : List V → L2.St → Hp → Prop, (∀ ys' σ' H', N ys' σ' H' → ∃ m', m' < m ∧ W (i + 1) m' ys' σ' H') ∧
    ∀ x H', J.yld i H x H' → gt x σ H' fun σ2 H2 => tb { D with nx := N, ct := N, bk := D.nx } ys σ2 H2)
theorem ns_for {tg iter : Expr} {body : List Stmt} {pos : Pos} {wi : TI} {gt : TG} {tb : TGn} (hp : PassesOwn (model X.prog X.w) X.A X.env X.xe) (hc : X.calm = true) (hi : PI X tg iter wi) (hg : PG X tg gt) (hb : NSs X C Good body tb)
    (hs : ∀ x, foldedSetIterable iter X.env x = pure x := by intro _; rfl) : NS X C Good (.For tg iter body [] pos) (tNFor wi gt tb) := by
  refine ⟨fun {A ip R n ys s₀ c fs K J gd lv s σ H D} g hn k hI ht => ?_⟩
  rw [exec_For]
  refine seg_bind_wrap (wpAny_standAt ?_)
  obtain ⟨hcc, I⟩ := hI
  refine seg_bind_wrap ?_
  rw [g.over]
  refine wpAny_mono (hi.run _ s σ H _ I ht) (fun v s1 h1 => ?_) fun x t hx => k.exc n s₀ x t hx
  refine seg_bind_wrap (wpAny_of_eq (hs v) ?_)
  refine seg_bind_wrap (wpAny_standAt ?_)
  refine seg_bind_wrap (wpAny_holding ?_)
  rw [g.over]
  refine wpAny_mono h1 (fun itv s2 h2 => ?_) fun x t hx => k.exc n s₀ x t hx
  obtain ⟨it, fp, tn, Jt, H2, e, I2, T, st2, f2, W, ⟨m0, w0⟩, turn⟩ := h2
  subst e
  have fC : ∀ b ∈ fp, b ∉ C := fun b hb hC => by
    obtain ⟨o, e, _⟩ := hcc b hC
    exact (f2 b hb).2.2.2.2.2 (b, o) (List.mem_append_right _ (List.mem_append_left _ (mem_pinsAt hC e))) rfl
  have stat : ∀ {H' : Hp} {h : Heap}, (∀ b ∈ fp, H' b = none) → ∀ b ∈ fp, FpOk X (pinsAt C h ++ ip) H' b := fun {H' h} hn b hb => by
    obtain ⟨_, q1, q2, q3, q4, q5⟩ := f2 b hb
    refine ⟨hn b hb, q1, q2, q3, q4, fun p hp e => ?_⟩
    rcases List.mem_append.mp hp with hp | hp
    · exact q5 p (List.mem_append_left _ hp) e
    rcases List.mem_append.mp hp with hp | hp
    · exact fC b hb (e ▸ (of_pinsAt hp).1)
    · exact q5 p (List.mem_append_right _ (List.mem_append_right _ hp)) e
  refine seg_call fun p => ?_
  suffices loop : ∀ (m i n : Nat) (ys : List V) (s₀ s : Shared) (σ : L2.St) (H : Hp), n + ys.length = sizeLine → W i m ys σ H → Up X C s₀.heap ip σ H s → tn i s.heap → (∀ b ∈ fp, H b = none) →
      Seg (model X.prog X.w) A R (NY X C Good) n s₀ (.forLoop tg (.ref it) body [] X.env) ((model X.prog X.w).den (.forLoop tg (.ref it) body [] X.env))
        (.ret (fun r => ((match r with | .ok f => (.pure f : Sem Flow) | .error e => .raise e).onRaise (cameBack X.env)).wrap K J gd lv) none (gd false) (lv []) c p [] :: fs) s from
    loop m0 0 n ys s₀ s2 σ H2 hn w0 ⟨hcc, I2⟩ st2 fun b hb => (f2 b hb).1
  intro m
  induction m using Nat.strongRecOn with
  | ind m ih =>
    intro i n ys s₀ s σ H hn w hI st fr
    show Seg _ A R _ n s₀ _ ((forTurn tg (.ref it) body [] X.env).onRaise (fun x => do noteFrame x X.env; theTreesLotGoes x)) _ s
    have gone : ∀ {n : Nat} {s₀ s : Shared} {x : Value}, X.xe x s → Seg (model X.prog X.w) A R (NY X C Good) n s₀ (.forLoop tg (.ref it) body [] X.env) ((do noteFrame x X.env; theTreesLotGoes x : Sem Unit).bind fun _ => .raise x)
        (.ret (fun r => ((match r with | .ok f => (.pure f : Sem Flow) | .error e => .raise e).onRaise (cameBack X.env)).wrap K J gd lv) none (gd false) (lv []) c p [] :: fs) s := fun {n s₀ s x} hx => by
      rw [Sem.bind_eq_wrap]
      exact seg_gone hp g rfl rfl k hx
    rw [Sem.onRaise_eq_wrap]
    unfold forTurn
    have ov : ∀ {k : Result → Sem PySem.Fin}, A.over (.forLoop tg (.ref it) body [] X.env) (.ret k none (gd false) (lv []) c p [] :: fs) = X.A := fun {k} => (over_loop rfl rfl).trans g.over
    refine seg_bind_wrap (wpAny_standAt ?_)
    obtain ⟨hcc, I⟩ := hI
    rcases turn i m ys σ H w with ⟨stop, qn⟩ | ⟨go, N, hN, step⟩
    · refine seg_bind_wrap (wpAny_onRaise ?_)
      rw [ov]
      refine wpAny_mono (T.done X rfl rfl rfl hc i _ s σ H X.xe I (stat fr) st stop) (fun r s4 hr => ?_) fun x t hx => wpAny_standAt (gone hx)
      obtain ⟨hr, I4⟩ := hr
      subst hr
      refine seg_again rfl ?_
      show Seg _ A R _ n s₀ _ ((execs [] X.env).onRaise (fun x => do noteFrame x X.env; theTreesLotGoes x) >>= fun f => pure (PySem.Fin.done f)) _ s4
      refine seg_bind (wpAny_onRaise (wpAny_execs_nil ?_))
      exact seg_leaf (.ok .next) (k.ok n ys s₀ s4 .next hn ⟨σ, H, ⟨hcc, I4⟩, qn⟩)
    · refine seg_bind_wrap (wpAny_onRaise ?_)
      rw [ov]
      refine wpAny_mono (T.item X rfl rfl rfl hc i _ s σ H X.xe I (stat fr) st go) (fun r s4 hr => ?_) fun x t hx => wpAny_standAt (gone hx)
      obtain ⟨u, hr, h4⟩ := hr
      subst hr
      refine seg_bind_wrap ?_
      rw [ov]
      refine wpAny_mono h4 (fun _ s5 h5 => ?_) fun x t hx => gone hx
      obtain ⟨x, H5, I5, r5, y5, st5, fr5⟩ := h5
      have I5' := I5.pinned (stat fr5) (T.obj _ _ st5)
      refine seg_bind_wrap ?_
      rw [ov]
      refine wpAny_mono (hg.run _ s5 σ H5 x u _ I5' r5 (step x H5 y5)) (fun _ s6 h6 => ?_) fun x t hx => gone hx
      obtain ⟨σ6, H6, I6, q6⟩ := h6
      rw [Sem.bind_eq_wrap', Sem.wrap_wrap]
      have hip : ∀ q ∈ ip ++ pinsAt fp s5.heap, q.1 ∉ C := fun q hq => by
        rcases List.mem_append.mp hq with hq | hq
        · exact g.ip q hq
        · exact fC _ (of_pinsAt hq).1
      have less : ∀ {s₀ s7 : Shared} {σ7 : L2.St} {H7 : Hp}, Up X C s₀.heap (ip ++ pinsAt fp s5.heap) σ7 H7 s7 → Up X C s₀.heap ip σ7 H7 s7 ∧ tn (i + 1) s7.heap ∧ ∀ b ∈ fp, H7 b = none := fun {s₀ s7 σ7 H7} U => by
        have pin : ∀ b ∈ fp, ∀ o, s5.heap.get? b = some o → s7.heap.get? b = some o ∧ H7 b = none := fun b hb o e => by
          have := U.2.pin (b, o) (List.mem_append_right _ (List.mem_append_right _ (List.mem_append_right _ (mem_pinsAt hb e))))
          exact ⟨this.1, this.2.1⟩
        refine ⟨⟨U.1, U.2.pins_of fun p hp => U.2.pin p (List.mem_append_right _ ?_)⟩, T.keep _ _ _ st5 fun b hb o e => (pin b hb o e).1, fun b hb => ?_⟩
        · rcases List.mem_append.mp hp with hp | hp
          · exact List.mem_append_left _ hp
          · exact List.mem_append_right _ (List.mem_append_left _ hp)
        · obtain ⟨o, e, _⟩ := T.obj _ _ st5 b hb
          exact (pin b hb o e).2
      refine hb.run (ip := ip ++ pinsAt fp s5.heap) (D := { D with nx := N, ct := N, bk := D.nx }) (nc_loop g hip rfl rfl) hn ⟨fun n' ys' s₀' s3 f hn' hs => ?_, fun n' s₀' x s3 hx => gone hx⟩ ⟨hcc, by rw [← List.append_assoc]; exact I6⟩ q6
      cases f with
      | next =>
        obtain ⟨σ3, H3, I3, n3⟩ := hs
        obtain ⟨m', hm, w3⟩ := hN ys' σ3 H3 n3
        obtain ⟨q1, q2, q3⟩ := less I3
        exact seg_again rfl (ih m' hm (i + 1) n' ys' s₀' s3 σ3 H3 hn' w3 q1 q2 q3)
      | cont =>
        obtain ⟨σ3, H3, I3, n3⟩ := hs
        obtain ⟨m', hm, w3⟩ := hN ys' σ3 H3 n3
        obtain ⟨q1, q2, q3⟩ := less I3
        exact seg_again rfl (ih m' hm (i + 1) n' ys' s₀' s3 σ3 H3 hn' w3 q1 q2 q3)
      | brk =>
        obtain ⟨σ3, H3, I3, n3⟩ := hs
        exact seg_leaf (.ok .next) (k.ok n' ys' s₀' s3 .next hn' ⟨σ3, H3, (less I3).1, n3⟩)
      | ret v =>
        obtain ⟨v3, σ3, H3, I3, r3, n3⟩ := hs
        exact seg_leaf (.ok (.ret v)) (k.ok n' ys' s₀' s3 (.ret v) hn' ⟨v3, σ3, H3, (less I3).1, r3, n3⟩)
end
end FM
-- FmGenFn
set_option maxRecDepth 100000
set_option maxHeartbeats 1000000
/-! A call of a generator def: what any consumer may rely on. -/
namespace FM
open PySem PySem.Spec PyProof.Rows L2 GenW
/-- the consumer's objects stand as they stood when the generator was woken -/
def Still (C : List Addr) (H : Hp) (s₀ s : Shared) : Prop := ∀ b ∈ C, H b = none ∧ ∀ o, s₀.heap.get? b = some o → s.heap.get? b = some o
/-- an end, or an exception -/
def ZEnd (P : Program) (w : World) (outer : List Env) (H : Hp) (s : Shared) (C : List Addr) (a : Addr) (g : Nat) (Q : List V → Hp → Prop) (E : XK) : GenEnd := fun n s₀ r s1 =>
  ((r = .ok (.ret .none) ∨ r = .ok .next) ∧ ∃ H' ys, n + ys.length = sizeLine ∧ s1.os = s.os ∧ AllBare s1.gens ∧ Un (frs outer) [] H H' s.heap s1.heap ∧ HOk P w H' s1.heap ∧ Still C H' s₀ s1 ∧ Q ys H') ∨
  ∃ e, r = .error e ∧ CX P w outer H s E e s1 ∧ s1.heap.IsGen a g
/-- an item -/
def ZItem (P : Program) (w : World) (outer : List Env) (H : Hp) (s : Shared) (C : List Addr) (a : Addr) (g : Nat) (Good : Gd) : Protocol := fun n s₀ v s1 kap =>
  ∃ ys x H1, n + 1 + ys.length = sizeLine ∧ RelV x v ∧ Good.ok (ys ++ [x]) H1 ∧ s1.os = s.os ∧ AllBare s1.gens ∧ s1.heap.IsGen a g ∧ Un (frs outer) [] H H1 s.heap s1.heap ∧ HOk P w H1 s1.heap ∧ Still C H1 s₀ s1 ∧
    (ys.length + 1 < Good.lim → ∀ t, Nap C s1 t → kap (.send .none) t)
/-- a generator that has not begun -/
def ZMade (P : Program) (w : World) (k : Nat) (outer : List Env) (H : Hp) (s : Shared) (Good : Gd) (Q : List V → Hp → Prop) (E : XK) (u : Value) (s' : Shared) : Prop :=
  ∃ (a : Addr) (g : Nat) (c : Code), u = .ref a ∧ s.heap.objs.size ≤ a ∧ a < s'.heap.objs.size ∧ s'.heap.IsGen a g ∧ s'.gens[g]? = some (.fresh c) ∧ s'.os = s.os ∧ AllBare s'.gens ∧ s'.heap.NoLimit ∧ (∀ b o, s.heap.get? b = some o → s'.heap.get? b = some o) ∧
    ∀ (A : Around) (C : List Addr) (s2 : Shared), Room k A → A.frames = some outer → (∀ b ∈ C, s'.heap.objs.size ≤ b) → (∀ b o, s'.heap.get? b = some o → s2.heap.get? b = some o) → (∀ b ∈ C, ∃ o, s2.heap.get? b = some o ∧ ∀ v, o.data ≠ .cell v) → s2.os = s.os → AllBare s2.gens →
      Seg (model P w) A (ZEnd P w outer H s C a g Q E) (ZItem P w outer H s C a g Good) sizeLine s2 c ((model P w).den c) [] s2
/-- arguments, heap, what each item is, the end, the exception -/
abbrev SpZ := List V → Hp → Gd → (List V → Hp → Prop) → XK → Prop
structure ZFn (P : Program) (w : World) (K : PySem.W.Frag) (mg : Str → Option Value) (base : Heap) (k : Nat) (f : Addr) (fd : FuncData) (ps : List Str) (sp : SpZ) : Prop where
  len : ∀ vs H G Q E, sp vs H G Q E → vs.length = ps.length
  run : ∀ (A : Around) (outer : List Env) (s : Shared) (H : Hp) (args : Args) (us : List Value) (vs : List V) (G : Gd) (Q : List V → Hp → Prop) (E : XK), Room k A → Env0 P w K mg base A outer s H → BindsTo s fd args (ps.zip us) → Vals vs us → sp vs H G Q E →
    codeAny (model P w) A (.call (.ref f) args) (fun r s' => match r with | .ok (.ret u) => ZMade P w k outer H s G Q E u s' | _ => False) s
theorem zfn_of {P : Program} {w : World} {K : PySem.W.Frag} {mg : Str → Option Value} {base : Heap} {k : Nat} {f : Addr} {name qual : Str} {params : Arguments} {body : List Stmt} {scope : Scope} {dV kV doc pm cdv ct oc : Value} {an od : Option Addr}
    {osl : Array (Option Value)} {N ps : List Str} {sp : SpZ} (lk : K.lookup f = some ⟨oc, od, .func (PySem.W.fnOf name qual params body scope dV kV doc pm an cdv ct), osl⟩) (hcd : PySem.W.codeIn K cdv qual = true) (S : GScope N ps scope)
    (len : ∀ vs H G Q E, sp vs H G Q E → vs.length = ps.length)
    (hbody : ∀ (A : Around) (outer : List Env) (s : Shared) (H : Hp) (vs : List V) (G : Gd) (Q : List V → Hp → Prop) (E : XK) (pn : List (Addr × Obj)) (C : List Addr), Room k (A.deeper (envOfC qual scope s.heap.objs.size f cdv)) → sp vs H G Q E →
      ∃ t, NSs (gcxOf P w K mg base N qual scope f cdv A outer s H E pn) C G body t ∧ t { nx := fun ys _ H' => Q ys H', rt := fun ys v H' => v = .non ∧ Q ys H' } [] (start N vs) H) :
    ZFn P w K mg base (k + 1) f (PySem.W.fnOf name qual params body scope dV kV doc pm an cdv ct) ps sp := by
  refine ⟨len, fun A outer s H args us vs G Q E hr e0 hb r hsp => ?_⟩
  have hl : vs.length = ps.length := len _ _ _ _ _ hsp
  have KX : K.In s.heap := e0.mod.kin.keeps fun b o e => And.left (e0.bs b o e)
  have lim : s.heap.NoLimit := e0.mod.nolimit.keeps fun b o e => And.left (e0.bs b o e)
  have hkind : ∀ y ∈ ps.zip us, scope.names.lookup y.1 = some .local ∨ (scope.names.lookup y.1 = some .cell ∧ ((cellsFrom (s.heap.objs.size + 1) scope.names []).lookup y.1).isSome = true) := by
    rintro ⟨n, v⟩ hy
    rcases S.par n (List.of_mem_zip hy).1 with q | q
    · exact .inl q
    · exact .inr ⟨q, PySem.W.cellsFrom_some _ _ _ (.inl q)⟩
  refine codeAny_call_generator hr.depth (KX _ _ lk) rfl S.co S.gen rfl (PySem.W.codeRec_of KX hcd) (hb _ _ _ _ (wpAny_newFunctionEnv_cells S.kind hkind fun env he s1 x => ?_))
  subst he
  have lim1 : s1.heap.NoLimit := lim.keeps x.toInCall.keep
  refine ⟨lim1, ?_⟩
  obtain ⟨h1, tk, es1, hk1⟩ := x.done
  have os1 : s1.os = s.os := by rw [es1]
  have gen1 : s1.gens = s.gens := by rw [es1]
  have lt1 : s.heap.objs.size < s1.heap.objs.size := x.toInCall.ns.lt
  have sz1 : s.heap.objs.size ≤ s1.heap.objs.size := Nat.le_of_lt lt1
  have kp1 : ∀ b o, s.heap.get? b = some o → s1.heap.get? b = some o := x.toInCall.keep
  suffices main : ∀ (go : Obj) (nm qn : Value) (tk2 : Nat), go.cls = .type "generator" → go.data = .fields #[.int s1.gens.size 0, nm, qn] → go.slots = #[] → (∀ h : Heap, (h.push go).get? h.objs.size = some go) →
      ZMade P w (k + 1) outer H s G Q E (.ref s1.heap.objs.size) { s1 with gens := s1.gens.push (.fresh (.func body (envOfC qual scope s.heap.objs.size f cdv))), toks := tk2, heap := s1.heap.push go } from
    main _ _ _ _ rfl rfl rfl fun h => Heap.get?_push_size _ rfl
  intro go nm qn tk2 hgc hgd0 hgs hgp
  have hgen : ∀ h : Heap, h.get? s1.heap.objs.size = some go → h.IsGen s1.heap.objs.size s1.gens.size := fun h e => ⟨go, nm, qn, e, hgc, hgd0, hgs⟩
  have hpushed : (s1.heap.push go).get? s1.heap.objs.size = some go := hgp _
  have e1 : (s1.heap.push go).objs.size = s1.heap.objs.size + 1 := Heap.size_push ..
  refine ⟨s1.heap.objs.size, s1.gens.size, _, rfl, sz1, ?_, hgen _ hpushed, Array.getElem?_push_size .., os1, AllBare.push (by rw [gen1]; exact e0.bare) rfl, lim1.keeps fun b o e => Heap.get?_push_of_some _ e, fun b o e => Heap.get?_push_of_some _ (kp1 b o e), ?_⟩
  · show s1.heap.objs.size < (s1.heap.push go).objs.size
    rw [e1]
    exact Nat.lt_succ_self _
  intro Aw C s2 hrw hfr hCx hk2 hCo hos hba
  have e0w : Env0 P w K mg base Aw outer s H := ⟨hfr, e0.mod, e0.bs, e0.bsz, e0.funs, e0.frf, e0.hok, e0.bare⟩
  obtain ⟨t, ht, hq⟩ := hbody Aw outer s H vs G Q E [(s1.heap.objs.size, go)] C (hrw.deeper _) hsp
  have I1 : Inv (gcxOf P w K mg base N qual scope f cdv Aw outer s H E []) [] (start N vs) H s1 := inv_startG S hrw.hd e0w hl r x
  have kp2 : ∀ b o, s1.heap.get? b = some o → s2.heap.get? b = some o := fun b o e => hk2 b o (Heap.get?_push_of_some _ e)
  have I2 : Inv (gcxOf P w K mg base N qual scope f cdv Aw outer s H E []) [] (start N vs) H s2 :=
    I1.call' (ch := []) (hos.trans os1.symm) (Un.kept kp2) (I1.hok.kept kp2) hba fun b z => (nomatch z)
  have hCz : ∀ b ∈ C, s1.heap.objs.size < b := fun b hb => by
    have q : (s1.heap.push go).objs.size ≤ b := hCx b hb
    rw [e1] at q
    exact q
  have hea : s2.heap.get? s1.heap.objs.size = some go := hk2 s1.heap.objs.size go hpushed
  have hgd : ∀ v, go.data ≠ .cell v := fun v q => by rw [hgd0] at q; cases q
  have young : ∀ b, s1.heap.objs.size ≤ b → H b = none ∧ b ≠ s.heap.objs.size ∧ b ∉ frs outer ∧ s.heap.objs.size ≤ b ∧ ∀ y c, (cellsFrom (s.heap.objs.size + 1) scope.names []).lookup y = some c → c ≠ b := fun b hb => by
    refine ⟨I1.hok.fresh hb, Nat.ne_of_gt (Nat.lt_of_lt_of_le lt1 hb), I1.nofs hb, Nat.le_trans sz1 hb, fun y c e z => ?_⟩
    obtain ⟨v, ob, ho, _⟩ := I1.cell y c e
    have q := Heap.lt_size ho
    rw [z] at q
    exact Nat.lt_irrefl _ (Nat.lt_of_lt_of_le q hb)
  have hU : Up (gcxOf P w K mg base N qual scope f cdv Aw outer s H E [(s1.heap.objs.size, go)]) C s2.heap [] (start N vs) H s2 := by
    refine ⟨hCo, Inv.pinnedG I2 fun p hp => ?_⟩
    rcases List.mem_append.mp hp with z | z
    · rw [List.mem_singleton.mp z]
      obtain ⟨y1, y2, y3, _⟩ := young s1.heap.objs.size (Nat.le_refl _)
      exact ⟨hea, y1, y2, y3, hgd⟩
    · rw [List.append_nil] at z
      obtain ⟨hb, e⟩ := of_pinsAt z
      obtain ⟨y1, y2, y3, _⟩ := young p.1 (Nat.le_of_lt (hCz _ hb))
      obtain ⟨o, e', d⟩ := hCo p.1 hb
      rw [e] at e'
      cases e'
      exact ⟨e, y1, y2, y3, d⟩
  have hFar : Far (gcxOf P w K mg base N qual scope f cdv Aw outer s H E [(s1.heap.objs.size, go)]) C := fun b hb => by
    obtain ⟨_, y2, _, y4, y5⟩ := young b (Nat.le_of_lt (hCz b hb))
    exact ⟨y4, y2, y5⟩
  have hpn : ∀ p ∈ [(s1.heap.objs.size, go)], p.1 ∉ C := fun p hp hb => by
    rw [List.mem_singleton.mp hp] at hb
    exact absurd (hCz _ hb) (Nat.lt_irrefl _)
  have pinned : ∀ {ip : List (Addr × Obj)} {h0 : Heap} {s' : Shared} {σ' : L2.St} {H' : Hp}, Up (gcxOf P w K mg base N qual scope f cdv Aw outer s H E [(s1.heap.objs.size, go)]) C h0 ip σ' H' s' → s'.heap.IsGen s1.heap.objs.size s1.gens.size := fun {ip h0 s' σ' H'} U =>
    hgen _ (U.2.pin (s1.heap.objs.size, go) (List.mem_append_left _ (List.mem_singleton.mpr rfl))).1
  have still : ∀ {ip : List (Addr × Obj)} {s₀ s' : Shared} {σ' : L2.St} {H' : Hp}, Up (gcxOf P w K mg base N qual scope f cdv Aw outer s H E [(s1.heap.objs.size, go)]) C s₀.heap ip σ' H' s' → Still C H' s₀ s' := fun {ip s₀ s' σ' H'} U b hb => by
    obtain ⟨o, q1, q2, q3, _⟩ := U.at hb
    refine ⟨q3, fun o' e => ?_⟩
    rw [q1] at e
    cases e
    exact q2
  refine seg_func ?_
  refine seg_imp (R := fun n s₀ r s' => match r with
      | .ok (.ret u) => ∃ ys v ip σ' H', n + ys.length = sizeLine ∧ Up (gcxOf P w K mg base N qual scope f cdv Aw outer s H E [(s1.heap.objs.size, go)]) C s₀.heap ip σ' H' s' ∧ RelV v u ∧ v = .non ∧ Q ys H'
      | .ok _ => False
      | .error e => CX P w outer H s E e s' ∧ ∀ p ∈ [(s1.heap.objs.size, go)], s'.heap.get? p.1 = some p.2)
    (Y := NY (gcxOf P w K mg base N qual scope f cdv Aw outer s H E [(s1.heap.objs.size, go)]) C G) (fun n s₀ r s' hR => ?_) (fun n s₀ v s' kap kap' hkk hY => ?_) sizeLine ?_
  · cases r with
    | error e =>
      obtain ⟨q1, q2⟩ := hR
      exact .inr ⟨e, rfl, q1, hgen _ (q2 (s1.heap.objs.size, go) (List.mem_singleton.mpr rfl))⟩
    | ok fl =>
      cases fl with
      | next => exact False.elim hR
      | brk => exact False.elim hR
      | cont => exact False.elim hR
      | ret u =>
        obtain ⟨ys, v, ip, σ', H', hn, U, rv, ev, hQ⟩ := hR
        subst ev
        have eu : u = Value.none := rv
        subst eu
        exact .inl ⟨.inl rfl, H', ys, hn, U.2.os, U.2.bare, U.2.base, U.2.hok, still U, hQ⟩
  · obtain ⟨ys, x, ip, σ', H', hn, rv, U, hG, hk⟩ := hY
    exact ⟨ys, x, H', hn, rv, hG, U.2.os, U.2.bare, pinned U, U.2.base, U.2.hok, still U, fun lt t z => hkk _ _ (hk lt t z)⟩
  · refine ht.run (ip := []) (n := sizeLine) (ys := []) (gd := id) (lv := id) ⟨hpn, fun p hp => (nomatch hp), hFar, over_func, rfl, rfl, rfl⟩ (Nat.add_zero _) ⟨fun n ys s₀ s' fl hn hs => ?_, fun n s₀ e s' hx => ?_⟩ hU hq
    · cases fl with
      | next =>
        obtain ⟨σ', H', U, hQ⟩ := hs
        exact seg_end (.ok (.ret .none)) ⟨ys, .non, [], σ', H', hn, U, rfl, rfl, hQ⟩
      | brk => obtain ⟨_, _, _, q⟩ := hs; exact False.elim q
      | cont => obtain ⟨_, _, _, q⟩ := hs; exact False.elim q
      | ret u =>
        obtain ⟨v, σ', H', U, rv, ev, hQ⟩ := hs
        exact seg_end (.ok (.ret u)) ⟨ys, v, [], σ', H', hn, U, rv, ev, hQ⟩
    · refine seg_wrap ?_
      rw [over_func]
      have hx' : wpAny (model P w) (Aw.deeper (envOfC qual scope s.heap.objs.size f cdv)) (leaving (envOfC qual scope s.heap.objs.size f cdv) e) (fun _ s'' => CX P w outer H s E e s'' ∧ ∀ p ∈ [(s1.heap.objs.size, go)], s''.heap.get? p.1 = some p.2) (fun _ _ => False) s' := hx
      exact wpAny_mono hx' (fun _ s'' q => seg_end (.error e) q) fun _ s'' q => q.elim
end FM
-- FmGenZip
set_option maxRecDepth 100000
set_option maxHeartbeats 1000000
/-! list(zip(range(n), g)), g a generator: the machine's steps. -/
namespace FM
open PySem PySem.Spec PyProof.Rows L2 GenW
open Sem (wp)
abbrev rgI (n : Int) : Obj := { cls := .type "range_iterator", data := .fields #[rawInt 0, rawInt n, rawInt 1] }
abbrev rgT (h : Heap) (n : Int) (a : Addr) : Heap := (h.push (rgI n)).push { cls := .type "tuple", data := .seq #[.ref h.objs.size, .ref a] }
abbrev rgO (h : Heap) (n : Int) (a : Addr) : Heap := (rgT h n a).push { cls := .type "tuple", data := .seq #[.none, .none] }
abbrev rgZ (h : Heap) (n : Int) (a : Addr) : Heap := (rgO h n a).push { cls := .type "zip", data := .fields #[.none, .bool false, .bool false, .ref (h.push (rgI n)).objs.size, .ref (rgT h n a).objs.size] }
/-- what stands where iter(range object) and iter(generator) can be taken -/
def RgOk (h : Heap) (r : Addr) (n : Int) (a : Addr) (g : Nat) : Prop := (∃ t u v, IsRange h r 0 n 1 t u v) ∧ Builtin.Range.small 0 n 1 = true ∧ Builtin.Range.rangeSize 0 n 1 = n ∧ h.IsGen a g
theorem meets_zip_rg {r a : Addr} {n : Int} {g : Nat} :
    Meets (Builtin.«zip.__new__» ⟨[.type "zip", .ref r, .ref a], []⟩) (fun _ R s => RgOk s.heap r n a g ∧
      R (.ok (.ret (.ref (rgO s.heap n a).objs.size))) { s with heap := rgZ s.heap n a }) :=
  .of_wp fun prog w A R s h => by
    obtain ⟨hp, gg, d, tk, os⟩ := s
    obtain ⟨⟨⟨t, u, v, hr⟩, hs, hz, hg⟩, h⟩ := h
    have hsub := sub_zip
    have q1 : ∀ {A' : Around} {E : Value → Shared → Prop} {Q : Value → Shared → Prop}, Q (.ref hp.objs.size) ⟨hp.push (rgI n), gg, d, tk, os⟩ → wpAny (model prog w) A' (pyIter (.ref r)) Q E ⟨hp, gg, d, tk, os⟩ :=
      fun q => wpAny_pyIter_range (s := ⟨hp, gg, d, tk, os⟩) hr hs (by rw [hz]; exact q)
    have q2 : ∀ {A' : Around} {E : Value → Shared → Prop} {Q : Value → Shared → Prop}, Q (.ref a) ⟨hp.push (rgI n), gg, d, tk, os⟩ → wpAny (model prog w) A' (pyIter (.ref a)) Q E ⟨hp.push (rgI n), gg, d, tk, os⟩ :=
      fun q => wpAny_pyIter_gen (s := ⟨hp.push (rgI n), gg, d, tk, os⟩) (hg.keeps fun b o e => Heap.get?_push_of_some _ e) q
    wp_walk using q1, q2
    exact ⟨_, rfl, h⟩
section
variable {prog : Program} {w : World} {A : Around} {E : Value → Shared → Prop} {s : Shared}
theorem zip_rg {r a : Addr} {n : Int} {g : Nat} {Q : Value → Shared → Prop} (hk : RgOk s.heap r n a g)
    (h : ∀ h', IsZip h' (s.heap.objs.size + 3) (s.heap.objs.size + 1) (s.heap.objs.size + 2) .none → IsTupOf2 h' (s.heap.objs.size + 1) (.ref s.heap.objs.size) (.ref a) →
      IsTupOf2 h' (s.heap.objs.size + 2) .none .none → IsRangeIter h' s.heap.objs.size 0 n 1 → h'.objs.size = s.heap.objs.size + 4 →
      (∀ c o, s.heap.get? c = some o → h'.get? c = some o) → Q (.ref (s.heap.objs.size + 3)) { s with heap := h' }) :
    wpAny (model prog w) A (call (.type "zip") [.ref r, .ref a]) Q E s := by
  refine callType_new F.called_zip (by decide) (F.typeCall_zip_2 _ _) (F.newCall_zip_2 _ _) (fun obj => F.args_object_init_3 obj _ _) F.entry_zip_new
    (meets_zip_rg (n := n) (g := g)) ⟨hk, ?_⟩
  have z1 : (s.heap.push (rgI n)).objs.size = s.heap.objs.size + 1 := by rw [Heap.size_push]
  have zT : (rgT s.heap n a).objs.size = s.heap.objs.size + 2 := by rw [Heap.size_push, z1]
  have zO : (rgO s.heap n a).objs.size = s.heap.objs.size + 3 := by rw [Heap.size_push, zT]
  have zZ : (rgZ s.heap n a).objs.size = s.heap.objs.size + 4 := by rw [Heap.size_push, zO]
  have gZ : (rgZ s.heap n a).get? (rgO s.heap n a).objs.size = some { cls := .type "zip", data := .fields #[.none, .bool false, .bool false, .ref (s.heap.push (rgI n)).objs.size, .ref (rgT s.heap n a).objs.size] } := Heap.get?_push_size _ rfl
  have gO : (rgZ s.heap n a).get? (rgT s.heap n a).objs.size = some { cls := .type "tuple", data := .seq #[.none, .none] } := Heap.get?_push_of_some _ (Heap.get?_push_size _ rfl)
  have gT : (rgZ s.heap n a).get? (s.heap.push (rgI n)).objs.size = some { cls := .type "tuple", data := .seq #[.ref s.heap.objs.size, .ref a] } := Heap.get?_push_of_some _ (Heap.get?_push_of_some _ (Heap.get?_push_size _ rfl))
  have g1 : (rgZ s.heap n a).get? s.heap.objs.size = some (rgI n) := Heap.get?_push_of_some _ (Heap.get?_push_of_some _ (Heap.get?_push_of_some _ (Heap.get?_push_size _ rfl)))
  rw [zO, zT, z1] at gZ
  rw [zT] at gO
  rw [z1] at gT
  show _ ∧ _
  rw [zO]
  exact ⟨⟨_, gZ, rfl⟩, h _ gZ gT gO g1 zZ fun c o e => Heap.get?_push_of_some _ (Heap.get?_push_of_some _ (Heap.get?_push_of_some _ (Heap.get?_push_of_some _ e)))⟩
/-! ### the turns -/
abbrev IsZipB (h : Heap) (z TI TO : Addr) (f0 : Value) (b : Bool) : Prop :=
  h.get? z = some { cls := .type "zip", dict := none, data := .fields #[f0, .bool b, .bool false, .ref TI, .ref TO], slots := #[] }
structure ZApart (z TI TO i : Addr) : Prop where
  TIz : TI ≠ z
  TOz : TO ≠ z
  iz : i ≠ z
  TITO : TI ≠ TO
  TIi : TI ≠ i
  TOi : TO ≠ i
/-- the tuple handed out last is free again, or there is none -/
def ZFree (h : Heap) (f0 : Value) : Prop := f0 = .none ∨ ∃ T : Addr, f0 = rawInt T ∧ h.get? T = none
theorem not_alive {T : Addr} {Q : Option Obj → Shared → Prop} (hT : s.heap.get? T = none) (h : Q none s) : wpAny (model prog w) A (loadIfAlive T) Q E s := fun Γ p _ => by
  unfold loadIfAlive
  rw [Sem.wp_loadIfAlive, hT]
  exact h
theorem owned_free {z TI TO : Addr} {f0 : Value} {b : Bool} {Q : Bool → Shared → Prop} (hz : IsZipB s.heap z TI TO f0 b) (hf : ZFree s.heap f0) (h : Q true s) : wpAny (model prog w) A (Builtin.SmallTypes.ownedTupleIsFree (.ref z)) Q E s := by
  unfold Builtin.SmallTypes.ownedTupleIsFree
  rcases hf with rfl | ⟨T, rfl, hT⟩
  · exact wpAny_bind (wpAny_field hz rfl (x := .none) rfl (wpAny_pure h))
  · refine wpAny_bind (wpAny_field hz rfl (x := rawInt T) rfl ?_)
    show wpAny _ _ (loadIfAlive ((T : Int).toNat) >>= _) _ _ _
    rw [Int.toNat_natCast]
    exact wpAny_bind (not_alive hT (wpAny_pure h))
/-- a turn with a free tuple -/
theorem zip_turn0 {z TI TO i a : Addr} {x left : Int} {a1 a2 : Value} {Q : Value → Shared → Prop} (D : ZApart z TI TO i) {f0 : Value} {bb : Bool} (hz : IsZipB s.heap z TI TO f0 bb) (hf : ZFree s.heap f0) (hTI : IsTupOf2 s.heap TI (.ref i) (.ref a)) (hTO : IsTupOf2 s.heap TO a1 a2)
    (hr : IsRangeIter s.heap i x left 1) (hl : 0 < left)
    (hN : ∀ h1 tk t, IsZipB h1 z TI TO .ellipsis bb → IsTupOf2 h1 TO (.int x t) a2 → IsRangeIter h1 i (x + 1) (left - 1) 1 → h1.objs.size = s.heap.objs.size → (∀ c o, c ≠ z → c ≠ TO → c ≠ i → s.heap.get? c = some o → h1.get? c = some o) →
      wpAny (model prog w) A (callSpecial? (.ref a) "__next__") (fun r s2 => ∃ v, r = some v ∧ IsZipB s2.heap z TI TO .ellipsis bb ∧ IsTupOf2 s2.heap TO (.int x t) a2 ∧
          ∀ h', IsZipB h' z TI TO (rawInt s2.heap.objs.size) false → IsTupOf2 h' TO (.int x t) v → IsTupOf2 h' s2.heap.objs.size (.int x t) v → h'.objs.size = s2.heap.objs.size + 1 →
            (∀ c o, c ≠ z → c ≠ TO → s2.heap.get? c = some o → h'.get? c = some o) → Q (.ref s2.heap.objs.size) { s2 with heap := h' })
        (fun e s2 => IsZipB s2.heap z TI TO .ellipsis bb ∧ ∀ h', IsZipB h' z TI TO .none bb → Heap.SameBut z s2.heap h' → E e { s2 with heap := h' }) { s with heap := h1, toks := tk }) :
    wpAny (model prog w) A (Builtin.«zip.__next__» ⟨[.ref z], []⟩) (fun fin s' => ∃ v, fin = .done (.ret v) ∧ Q v s') E s := by
  obtain ⟨hp, g, d, tk0, os⟩ := s
  show wpAny _ _ (field (.ref z) 2 >>= _) _ _ _
  refine wpAny_bind (wpAny_field hz rfl (x := .bool false) rfl ?_)
  show wpAny _ _ (field (.ref z) 3 >>= _) _ _ _
  refine wpAny_bind (wpAny_field hz rfl (x := .ref TI) rfl ?_)
  refine wpAny_bind (wpAny_seqItems hTI rfl ?_)
  show wpAny _ _ (Builtin.SmallTypes.ownedTupleIsFree (.ref z) >>= _) _ _ _
  refine wpAny_bind (owned_free hz hf ?_)
  simp only [if_true]
  refine wpAny_bind (wpAny_rule ?_)
  refine wpAny_bind (wpAny_field hz rfl (x := .ref TO) rfl ?_)
  refine wpAny_bind (wpAny_setField_rec hz (by simp) fun g0 hz0 hs0 => ?_)
  replace hz0 : IsZipB g0 z TI TO .ellipsis bb := hz0
  replace hs0 : Heap.SameBut z hp g0 := hs0
  refine wpAny_bind ?_
  simp only [List.zipIdx_cons, List.zipIdx_nil, List.forIn_cons, List.forIn_nil]
  refine wpAny_bind (wpAny_bind (wpAny_onRaise ?_))
  show wpAny _ _ (Builtin.SmallTypes.nextOf (.ref i) >>= _) _ _ ⟨g0, g, d, tk0, os⟩
  unfold Builtin.SmallTypes.nextOf
  refine wpAny_bind (wpAny_bind (CpRep.range_item (s := ⟨g0, g, d, tk0, os⟩) (hs0.extBut _ _ D.iz hr) hl fun p1 hr1 hp1 => wpAny_pure (wpAny_pure ?_)))
  replace hp1 : Heap.SameBut i g0 p1 := hp1
  have hU1 : IsTupOf2 p1 TO a1 a2 := hp1.extBut _ _ D.TOi (hs0.extBut _ _ D.TOz hTO)
  refine wpAny_bind (wpAny_seqItems (s := ⟨p1, g, d, tk0 + 1, os⟩) hU1 rfl ?_)
  refine wpAny_bind (updateSeq_IsTupOf2 (s := ⟨p1, g, d, tk0 + 1, os⟩) hU1 fun g1 hT1 hs1 => ?_)
  replace hT1 : IsTupOf2 g1 TO (.int x tk0) a2 := hT1
  replace hs1 : Heap.SameBut TO p1 g1 := hs1
  refine wpAny_bind (wpAny_letGo (wpAny_pure ?_))
  refine wpAny_bind (wpAny_bind (wpAny_onRaise ?_))
  show wpAny _ _ ((callSpecial? (.ref a) "__next__" >>= _) >>= _) _ _ ⟨g1, g, d, tk0 + 1, os⟩
  have hz1 : IsZipB g1 z TI TO .ellipsis bb := hs1.extBut _ _ D.TOz.symm (hp1.extBut _ _ D.iz.symm hz0)
  refine wpAny_bind (wpAny_bind (wpAny_mono (hN g1 (tk0 + 1) tk0 hz1 hT1 (hs1.extBut _ _ D.TOi.symm hr1) (by rw [hs1.1, hp1.1, hs0.1]) fun c o cz cT ci e => hs1.extBut _ _ cT (hp1.extBut _ _ ci (hs0.extBut _ _ cz e))) (fun r s2 hv => ?_) fun e s2 he => ?_))
  · obtain ⟨v, rfl, hz2, hT2, hQ⟩ := hv
    refine wpAny_pure (wpAny_pure ?_)
    obtain ⟨p2, gg, dd, tk2, os2⟩ := s2
    refine wpAny_bind (wpAny_seqItems (s := ⟨p2, gg, dd, tk2, os2⟩) hT2 rfl ?_)
    refine wpAny_bind (updateSeq_IsTupOf2 (s := ⟨p2, gg, dd, tk2, os2⟩) hT2 fun g2 hT3 hs2 => ?_)
    replace hT3 : IsTupOf2 g2 TO (.int x tk0) v := hT3
    replace hs2 : Heap.SameBut TO p2 g2 := hs2
    refine wpAny_bind (wpAny_letGo (wpAny_pure (wpAny_pure ?_)))
    refine wpAny_bind (wpAny_seqItems (s := ⟨g2, gg, dd, tk2, os2⟩) hT3 rfl ?_)
    refine wpAny_bind (wpAny_newTuple ?_)
    have hzz : IsZipB g2 z TI TO .ellipsis bb := hs2.extBut _ _ D.TOz.symm hz2
    have hzlt : z < g2.objs.size := Heap.lt_size hzz
    show wpAny _ _ (Builtin.SmallTypes.ownedTupleHandOut (.ref z) (.ref g2.objs.size) >>= _) _ _ ⟨g2.push { cls := .type "tuple", data := .seq #[.int x tk0, v] }, gg, dd, tk2, os2⟩
    refine wpAny_bind ?_
    unfold Builtin.SmallTypes.ownedTupleHandOut
    have hz6 : IsZipB (g2.push { cls := .type "tuple", data := .seq #[.int x tk0, v] }) z TI TO .ellipsis bb := Heap.get?_push_of_some _ hzz
    refine wpAny_bind (wpAny_setField_rec hz6 (by simp) fun h7 hz7 hs7 => ?_)
    replace hz7 : IsZipB h7 z TI TO (rawInt g2.objs.size) bb := hz7
    refine wpAny_setField_rec hz7 (by simp) fun h8 hz8 hs8 => ?_
    replace hz8 : IsZip h8 z TI TO (rawInt g2.objs.size) := hz8
    replace hs7 : Heap.SameBut z (g2.push { cls := .type "tuple", data := .seq #[.int x tk0, v] }) h7 := hs7
    replace hs8 : Heap.SameBut z h7 h8 := hs8
    have up : ∀ c o, c ≠ z → g2.get? c = some o → h8.get? c = some o := fun c o c1 e => hs8.extBut _ _ c1 (hs7.extBut _ _ c1 (Heap.get?_push_of_some _ e))
    have hT8 : IsTupOf2 h8 g2.objs.size (.int x tk0) v := hs8.extBut _ _ (Nat.ne_of_gt hzlt) (hs7.extBut _ _ (Nat.ne_of_gt hzlt) (Heap.get?_push_size _ rfl))
    have hz9 : h8.objs.size = g2.objs.size + 1 := by rw [hs8.1, hs7.1, Heap.size_push]
    have hsz : g2.objs.size = p2.objs.size := hs2.1
    rw [hsz] at hz8 hT8 hz9
    refine wpAny_pure ⟨_, rfl, ?_⟩
    show Q (.ref g2.objs.size) ⟨h8, gg, dd, tk2, os2⟩
    rw [hsz]
    exact hQ h8 hz8 (up _ _ D.TOz hT3) hT8 hz9 fun c o cz cT e => up c o cz (hs2.extBut _ _ cT e)
  · obtain ⟨hz2, hE⟩ := he
    exact wpAny_setField_rec hz2 (by simp) fun h' hz' hs' => hE h' hz' hs'
/-- the range is at its end, at the first turn -/
theorem zip_end0 {z TI TO i a : Addr} {x left : Int} {a1 a2 : Value} {Q : Fin → Shared → Prop} (hh : A.handled = none) (D : ZApart z TI TO i) {f0 : Value} {bb : Bool} (hz : IsZipB s.heap z TI TO f0 bb) (hf : ZFree s.heap f0) (hTI : IsTupOf2 s.heap TI (.ref i) (.ref a)) (hTO : IsTupOf2 s.heap TO a1 a2)
    (hr : IsRangeIter s.heap i x left 1) (hl : left ≤ 0)
    (hE : ∀ h' e, (∀ c o, c ≠ z → c ≠ TO → c ≠ i → s.heap.get? c = some o → h'.get? c = some o) → (∃ o, h'.get? e = some o ∧ o.cls = .type "StopIteration") → E (.ref e) { s with heap := h' }) :
    wpAny (model prog w) A (Builtin.«zip.__next__» ⟨[.ref z], []⟩) Q E s := by
  obtain ⟨hp, g, d, tk0, os⟩ := s
  show wpAny _ _ (field (.ref z) 2 >>= _) _ _ _
  refine wpAny_bind (wpAny_field hz rfl (x := .bool false) rfl ?_)
  show wpAny _ _ (field (.ref z) 3 >>= _) _ _ _
  refine wpAny_bind (wpAny_field hz rfl (x := .ref TI) rfl ?_)
  refine wpAny_bind (wpAny_seqItems hTI rfl ?_)
  show wpAny _ _ (Builtin.SmallTypes.ownedTupleIsFree (.ref z) >>= _) _ _ _
  refine wpAny_bind (owned_free hz hf ?_)
  simp only [if_true]
  refine wpAny_bind (wpAny_rule ?_)
  refine wpAny_bind (wpAny_field hz rfl (x := .ref TO) rfl ?_)
  refine wpAny_bind (wpAny_setField_rec hz (by simp) fun g0 hz0 hs0 => ?_)
  replace hz0 : IsZipB g0 z TI TO .ellipsis bb := hz0
  replace hs0 : Heap.SameBut z hp g0 := hs0
  refine wpAny_bind ?_
  simp only [List.zipIdx_cons, List.zipIdx_nil, List.forIn_cons, List.forIn_nil]
  refine wpAny_bind (wpAny_bind (wpAny_onRaise ?_))
  show wpAny _ _ (Builtin.SmallTypes.nextOf (.ref i) >>= _) _ _ ⟨g0, g, d, tk0, os⟩
  unfold Builtin.SmallTypes.nextOf
  refine wpAny_bind (wpAny_bind (CpRep.range_end (s := ⟨g0, g, d, tk0, os⟩) hh (hs0.extBut _ _ D.iz hr) hl fun e q he hq => ?_))
  obtain ⟨ea, oe, vs, rfl, hoe, hce, _⟩ := he
  replace hq : Heap.ExtBut i g0 q := hq
  replace hoe : q.get? ea = some oe := hoe
  have hzq : IsZipB q z TI TO .ellipsis bb := hq _ _ D.iz.symm hz0
  have hez : ea ≠ z := fun x => by subst x; rw [hzq] at hoe; cases hoe; simp at hce
  refine wpAny_setField_rec (s := ⟨q, g, d, tk0, os⟩) hzq (by simp) fun q' _ hq' => ?_
  replace hq' : Heap.SameBut z q q' := hq'
  exact hE q' ea (fun c o cz cT c1 x => hq'.extBut _ _ cz (hq _ _ c1 (hs0.extBut _ _ cz x))) ⟨oe, hq'.extBut _ _ hez hoe, hce⟩
/-- a later turn: the tuples handed out so far stand -/
theorem zip_turnN {z TI TO i a T : Addr} {f : Bool} {oT : Obj} {x left : Int} {Q : Value → Shared → Prop} (D : ZApart z TI TO i) (hz : IsZipHeld s.heap z TI TO T f) (hT : s.heap.get? T = some oT) (hTI : IsTupOf2 s.heap TI (.ref i) (.ref a))
    (hr : IsRangeIter s.heap i x left 1) (hl : 0 < left)
    (hN : ∀ h1 tk t, IsZipHeld h1 z TI TO T true → IsRangeIter h1 i (x + 1) (left - 1) 1 → h1.objs.size = s.heap.objs.size → (∀ c o, c ≠ z → c ≠ i → s.heap.get? c = some o → h1.get? c = some o) →
      wpAny (model prog w) A (callSpecial? (.ref a) "__next__") (fun r s2 => ∃ v, r = some v ∧
          ∀ h', IsTupOf2 h' s2.heap.objs.size (.int x t) v → h'.objs.size = s2.heap.objs.size + 1 → (∀ c o, s2.heap.get? c = some o → h'.get? c = some o) → Q (.ref s2.heap.objs.size) { s2 with heap := h' })
        E { s with heap := h1, toks := tk }) :
    wpAny (model prog w) A (Builtin.«zip.__next__» ⟨[.ref z], []⟩) (fun fin s' => ∃ v, fin = .done (.ret v) ∧ Q v s') E s := by
  obtain ⟨hp, g, d, tk0, os⟩ := s
  show wpAny _ _ (field (.ref z) 2 >>= _) _ _ _
  refine wpAny_bind (wpAny_field hz rfl (x := .bool false) rfl ?_)
  show wpAny _ _ (field (.ref z) 3 >>= _) _ _ _
  refine wpAny_bind (wpAny_field hz rfl (x := .ref TI) rfl ?_)
  refine wpAny_bind (wpAny_seqItems hTI rfl ?_)
  show wpAny _ _ (Builtin.SmallTypes.ownedTupleIsFree (.ref z) >>= _) _ _ _
  refine wpAny_bind (wpAny_tupleHeld_zip hz hT fun g0 hz0 hs0 => ?_)
  simp only [Bool.false_eq_true, if_false]
  refine wpAny_bind ?_
  rw [← Array.forIn_toList]
  simp only [List.forIn_cons, List.forIn_nil]
  refine wpAny_bind (wpAny_bind (wpAny_holding ?_))
  show wpAny _ _ (Builtin.SmallTypes.nextOf (.ref i) >>= _) _ _ ⟨g0, g, d, tk0, os⟩
  unfold Builtin.SmallTypes.nextOf
  replace hs0 : Heap.SameBut z hp g0 := hs0
  refine wpAny_bind (wpAny_bind (CpRep.range_item (s := ⟨g0, g, d, tk0, os⟩) (hs0.extBut _ _ D.iz hr) hl fun p1 hr1 hp1 => wpAny_pure (wpAny_pure ?_)))
  replace hp1 : Heap.SameBut i g0 p1 := hp1
  refine wpAny_pure ?_
  refine wpAny_bind (wpAny_bind (wpAny_holding ?_))
  show wpAny _ _ ((callSpecial? (.ref a) "__next__" >>= _) >>= _) _ _ ⟨p1, g, d, tk0 + 1, os⟩
  have hz1 : IsZipHeld p1 z TI TO T true := hp1.extBut _ _ D.iz.symm hz0
  refine wpAny_bind (wpAny_bind (wpAny_mono (hN p1 (tk0 + 1) tk0 hz1 hr1 (by rw [hp1.1, hs0.1]) fun c o cz ci e => hp1.extBut _ _ ci (hs0.extBut _ _ cz e)) (fun r s2 hv => ?_) fun e s2 he => he))
  obtain ⟨v, rfl, hQ⟩ := hv
  refine wpAny_pure (wpAny_pure (wpAny_pure (wpAny_pure ?_)))
  obtain ⟨p2, gg, dd, tk2, os2⟩ := s2
  show wpAny _ _ (newTuple [.int x tk0, v] >>= _) _ _ _
  refine wpAny_bind (wpAny_newTuple (wpAny_pure ⟨_, rfl, ?_⟩))
  exact hQ _ (Heap.get?_push_size _ rfl) (Heap.size_push ..) fun c o e => Heap.get?_push_of_some _ e
theorem zip_endN {z TI TO i a T : Addr} {f : Bool} {oT : Obj} {x left : Int} {Q : Fin → Shared → Prop} (hh : A.handled = none) (D : ZApart z TI TO i) (hz : IsZipHeld s.heap z TI TO T f) (hT : s.heap.get? T = some oT) (hTI : IsTupOf2 s.heap TI (.ref i) (.ref a))
    (hr : IsRangeIter s.heap i x left 1) (hl : left ≤ 0)
    (hE : ∀ h' e, (∀ c o, c ≠ z → c ≠ i → s.heap.get? c = some o → h'.get? c = some o) → (∃ o, h'.get? e = some o ∧ o.cls = .type "StopIteration") → E (.ref e) { s with heap := h' }) :
    wpAny (model prog w) A (Builtin.«zip.__next__» ⟨[.ref z], []⟩) Q E s := by
  obtain ⟨hp, g, d, tk0, os⟩ := s
  show wpAny _ _ (field (.ref z) 2 >>= _) _ _ _
  refine wpAny_bind (wpAny_field hz rfl (x := .bool false) rfl ?_)
  show wpAny _ _ (field (.ref z) 3 >>= _) _ _ _
  refine wpAny_bind (wpAny_field hz rfl (x := .ref TI) rfl ?_)
  refine wpAny_bind (wpAny_seqItems hTI rfl ?_)
  show wpAny _ _ (Builtin.SmallTypes.ownedTupleIsFree (.ref z) >>= _) _ _ _
  refine wpAny_bind (wpAny_tupleHeld_zip hz hT fun g0 hz0 hs0 => ?_)
  simp only [Bool.false_eq_true, if_false]
  refine wpAny_bind ?_
  rw [← Array.forIn_toList]
  simp only [List.forIn_cons, List.forIn_nil]
  refine wpAny_bind (wpAny_bind (wpAny_holding ?_))
  show wpAny _ _ (Builtin.SmallTypes.nextOf (.ref i) >>= _) _ _ ⟨g0, g, d, tk0, os⟩
  unfold Builtin.SmallTypes.nextOf
  replace hs0 : Heap.SameBut z hp g0 := hs0
  refine wpAny_bind (wpAny_bind (CpRep.range_end (s := ⟨g0, g, d, tk0, os⟩) hh (hs0.extBut _ _ D.iz hr) hl fun e q he hq => ?_))
  obtain ⟨ea, oe, vs, rfl, hoe, hce, _⟩ := he
  replace hq : Heap.ExtBut i g0 q := hq
  replace hoe : q.get? ea = some oe := hoe
  exact hE q ea (fun c o cz c1 x => hq _ _ c1 (hs0.extBut _ _ cz x)) ⟨oe, hoe, hce⟩
end
end FM
-- FmGenRaise
set_option maxRecDepth 100000
set_option maxHeartbeats 1000000
/-! A generator def that raises when it is first woken; next of a generator; an exception past a turned object. -/
namespace FM
open PySem PySem.Spec PyProof.Rows L2 GenW
open Sem (wp)
/-- what is raised, and the pinned objects are untracked -/
def EPin (E : XK) (pn : List (Addr × Obj)) : XK := fun cls d H => E cls d H ∧ ∀ p ∈ pn, H p.1 = none
theorem xe_more {X : Cx} {W : WX} {u : Value} {s : Shared} (x : XE X W u s) : XE X (fun cls d σ H => W cls d σ H ∧ ∀ p ∈ X.pn, H p.1 = none) u s := by
  obtain ⟨a, B, sI, pins, σ, H, cls, d, e, I, nb, up, sky, na, os, ag, w⟩ := x
  exact ⟨a, B, sI, pins, σ, H, cls, d, e, I, nb, up, sky, na, os, ag, w, fun p hp => (I.pin p (List.mem_append_left _ hp)).2.1⟩
section
variable {P : Program} {w : World} {K : PySem.W.Frag} {mg : Str → Option Value} {base : Heap} {N : List Str} {qual : Str} {scope : Scope} {f : Addr} {cd : Value} {A : Around} {outer : List Env} {s : Shared} {H : Hp} {E : XK} {pn : List (Addr × Obj)}
theorem takes_pin : Takes (gcxOf P w K mg base N qual scope f cd A outer s H (EPin E pn) pn) (fun cls d _ H' => E cls d H') := fun u s' x =>
  XE.leaveG (E := EPin E pn) rfl rfl rfl (fun _ _ _ _ h => h) (xe_more x)
end
/-- a generator that has not begun, and raises when it is woken -/
def RMade (P : Program) (w : World) (k : Nat) (outer : List Env) (H : Hp) (s : Shared) (E : XK) (u : Value) (s' : Shared) : Prop :=
  ∃ (a : Addr) (g : Nat) (c : Code), u = .ref a ∧ s.heap.objs.size ≤ a ∧ a < s'.heap.objs.size ∧ s'.heap.IsGen a g ∧ s'.gens[g]? = some (.fresh c) ∧ s'.os = s.os ∧ AllBare s'.gens ∧ s'.heap.NoLimit ∧ (∀ b o, s.heap.get? b = some o → s'.heap.get? b = some o) ∧
    ∀ (A : Around) (C : List Addr) (s2 : Shared), Room k A → A.frames = some outer → (∀ b ∈ C, s'.heap.objs.size ≤ b) → (∀ b o, s'.heap.get? b = some o → s2.heap.get? b = some o) → (∀ b ∈ C, ∃ o, s2.heap.get? b = some o ∧ ∀ v, o.data ≠ .cell v) → s2.os = s.os → AllBare s2.gens →
      Seg (model P w) A (fun _ _ r s1 => ∃ e, r = .error e ∧ CX P w outer H s (EPin E (pinsAt C s2.heap)) e s1 ∧ s1.heap.IsGen a g ∧ ∀ b ∈ C, ∀ o, s2.heap.get? b = some o → s1.heap.get? b = some o) (fun _ _ _ _ _ => False) sizeLine s2 c ((model P w).den c) [] s2
abbrev SpR := List V → Hp → XK → Prop
structure RFn (P : Program) (w : World) (K : PySem.W.Frag) (mg : Str → Option Value) (base : Heap) (k : Nat) (f : Addr) (fd : FuncData) (ps : List Str) (sp : SpR) : Prop where
  len : ∀ vs H E, sp vs H E → vs.length = ps.length
  run : ∀ (A : Around) (outer : List Env) (s : Shared) (H : Hp) (args : Args) (us : List Value) (vs : List V) (E : XK), Room k A → Env0 P w K mg base A outer s H → BindsTo s fd args (ps.zip us) → Vals vs us → sp vs H E →
    codeAny (model P w) A (.call (.ref f) args) (fun r s' => match r with | .ok (.ret u) => RMade P w k outer H s E u s' | _ => False) s
theorem rfn_of {P : Program} {w : World} {K : PySem.W.Frag} {mg : Str → Option Value} {base : Heap} {k : Nat} {f : Addr} {name qual : Str} {params : Arguments} {body : List Stmt} {scope : Scope} {dV kV doc pm cdv ct oc : Value} {an od : Option Addr}
    {osl : Array (Option Value)} {N ps : List Str} {sp : SpR} (lk : K.lookup f = some ⟨oc, od, .func (PySem.W.fnOf name qual params body scope dV kV doc pm an cdv ct), osl⟩) (hcd : PySem.W.codeIn K cdv qual = true) (S : GScope N ps scope)
    (len : ∀ vs H E, sp vs H E → vs.length = ps.length)
    (hbody : ∀ (A : Around) (outer : List Env) (s : Shared) (H : Hp) (vs : List V) (E : XK) (pn : List (Addr × Obj)), Room k (A.deeper (envOfC qual scope s.heap.objs.size f cdv)) → sp vs H E →
      ∃ t, NSs (gcxOf P w K mg base N qual scope f cdv A outer s H (EPin E pn) pn) [] ⟨fun _ _ => False, 0⟩ body t ∧ t { nx := fun _ _ _ => False, rt := fun _ _ _ => False } [] (start N vs) H) :
    RFn P w K mg base (k + 1) f (PySem.W.fnOf name qual params body scope dV kV doc pm an cdv ct) ps sp := by
  refine ⟨len, fun A outer s H args us vs E hr e0 hb r hsp => ?_⟩
  have hl : vs.length = ps.length := len _ _ _ hsp
  have KX : K.In s.heap := e0.mod.kin.keeps fun b o e => And.left (e0.bs b o e)
  have lim : s.heap.NoLimit := e0.mod.nolimit.keeps fun b o e => And.left (e0.bs b o e)
  have hkind : ∀ y ∈ ps.zip us, scope.names.lookup y.1 = some .local ∨ (scope.names.lookup y.1 = some .cell ∧ ((cellsFrom (s.heap.objs.size + 1) scope.names []).lookup y.1).isSome = true) := by
    rintro ⟨n, v⟩ hy
    rcases S.par n (List.of_mem_zip hy).1 with q | q
    · exact .inl q
    · exact .inr ⟨q, PySem.W.cellsFrom_some _ _ _ (.inl q)⟩
  refine codeAny_call_generator hr.depth (KX _ _ lk) rfl S.co S.gen rfl (PySem.W.codeRec_of KX hcd) (hb _ _ _ _ (wpAny_newFunctionEnv_cells S.kind hkind fun env he s1 x => ?_))
  subst he
  have lim1 : s1.heap.NoLimit := lim.keeps x.toInCall.keep
  refine ⟨lim1, ?_⟩
  obtain ⟨h1, tk, es1, hk1⟩ := x.done
  have os1 : s1.os = s.os := by rw [es1]
  have gen1 : s1.gens = s.gens := by rw [es1]
  have lt1 : s.heap.objs.size < s1.heap.objs.size := x.toInCall.ns.lt
  have sz1 : s.heap.objs.size ≤ s1.heap.objs.size := Nat.le_of_lt lt1
  have kp1 : ∀ b o, s.heap.get? b = some o → s1.heap.get? b = some o := x.toInCall.keep
  suffices main : ∀ (go : Obj) (nm qn : Value) (tk2 : Nat), go.cls = .type "generator" → go.data = .fields #[.int s1.gens.size 0, nm, qn] → go.slots = #[] → (∀ h : Heap, (h.push go).get? h.objs.size = some go) →
      RMade P w (k + 1) outer H s E (.ref s1.heap.objs.size) { s1 with gens := s1.gens.push (.fresh (.func body (envOfC qual scope s.heap.objs.size f cdv))), toks := tk2, heap := s1.heap.push go } from
    main _ _ _ _ rfl rfl rfl fun h => Heap.get?_push_size _ rfl
  intro go nm qn tk2 hgc hgd0 hgs hgp
  have hgen : ∀ h : Heap, h.get? s1.heap.objs.size = some go → h.IsGen s1.heap.objs.size s1.gens.size := fun h e => ⟨go, nm, qn, e, hgc, hgd0, hgs⟩
  have hpushed : (s1.heap.push go).get? s1.heap.objs.size = some go := hgp _
  have e1 : (s1.heap.push go).objs.size = s1.heap.objs.size + 1 := Heap.size_push ..
  refine ⟨s1.heap.objs.size, s1.gens.size, _, rfl, sz1, ?_, hgen _ hpushed, Array.getElem?_push_size .., os1, AllBare.push (by rw [gen1]; exact e0.bare) rfl, lim1.keeps fun b o e => Heap.get?_push_of_some _ e, fun b o e => Heap.get?_push_of_some _ (kp1 b o e), ?_⟩
  · show s1.heap.objs.size < (s1.heap.push go).objs.size
    rw [e1]
    exact Nat.lt_succ_self _
  intro Aw C s2 hrw hfr hCx hk2 hCo hos hba
  have e0w : Env0 P w K mg base Aw outer s H := ⟨hfr, e0.mod, e0.bs, e0.bsz, e0.funs, e0.frf, e0.hok, e0.bare⟩
  let pn : List (Addr × Obj) := (s1.heap.objs.size, go) :: pinsAt C s2.heap
  obtain ⟨t, ht, hq⟩ := hbody Aw outer s H vs E pn (hrw.deeper _) hsp
  have I1 : Inv (gcxOf P w K mg base N qual scope f cdv Aw outer s H (EPin E pn) []) [] (start N vs) H s1 := inv_startG S hrw.hd e0w hl r x
  have kp2 : ∀ b o, s1.heap.get? b = some o → s2.heap.get? b = some o := fun b o e => hk2 b o (Heap.get?_push_of_some _ e)
  have I2 : Inv (gcxOf P w K mg base N qual scope f cdv Aw outer s H (EPin E pn) []) [] (start N vs) H s2 :=
    I1.call' (ch := []) (hos.trans os1.symm) (Un.kept kp2) (I1.hok.kept kp2) hba fun b z => (nomatch z)
  have hCz : ∀ b ∈ C, s1.heap.objs.size < b := fun b hb => by
    have q : (s1.heap.push go).objs.size ≤ b := hCx b hb
    rw [e1] at q
    exact q
  have hea : s2.heap.get? s1.heap.objs.size = some go := hk2 s1.heap.objs.size go hpushed
  have hgd : ∀ v, go.data ≠ .cell v := fun v q => by rw [hgd0] at q; cases q
  have young : ∀ b, s1.heap.objs.size ≤ b → H b = none ∧ b ≠ s.heap.objs.size ∧ b ∉ frs outer := fun b hb =>
    ⟨I1.hok.fresh hb, Nat.ne_of_gt (Nat.lt_of_lt_of_le lt1 hb), I1.nofs hb⟩
  have hU : Up (gcxOf P w K mg base N qual scope f cdv Aw outer s H (EPin E pn) pn) [] s2.heap [] (start N vs) H s2 := by
    refine ⟨fun b hb => (nomatch hb), Inv.pinnedG I2 fun p hp => ?_⟩
    rcases List.mem_append.mp hp with z | z
    · rcases List.mem_cons.mp z with z | z
      · rw [z]
        obtain ⟨y1, y2, y3⟩ := young s1.heap.objs.size (Nat.le_refl _)
        exact ⟨hea, y1, y2, y3, hgd⟩
      · obtain ⟨hb, e⟩ := of_pinsAt z
        obtain ⟨y1, y2, y3⟩ := young p.1 (Nat.le_of_lt (hCz _ hb))
        obtain ⟨o, e', d⟩ := hCo p.1 hb
        rw [e] at e'
        cases e'
        exact ⟨e, y1, y2, y3, d⟩
    · exact (nomatch z)
  refine seg_func ?_
  refine seg_imp (R := fun n s₀ r s' => match r with
      | .ok _ => False
      | .error e => CX P w outer H s (EPin E pn) e s' ∧ ∀ p ∈ pn, s'.heap.get? p.1 = some p.2)
    (Y := NY (gcxOf P w K mg base N qual scope f cdv Aw outer s H (EPin E pn) pn) [] ⟨fun _ _ => False, 0⟩) (fun n s₀ r s' hR => ?_) (fun n s₀ v s' kap kap' hkk hY => ?_) sizeLine ?_
  · cases r with
    | error e =>
      obtain ⟨q1, q2⟩ := hR
      refine ⟨e, rfl, ?_, hgen _ (q2 (s1.heap.objs.size, go) List.mem_cons_self), fun b hb o eo => q2 (b, o) (List.mem_cons_of_mem _ (mem_pinsAt hb eo))⟩
      obtain ⟨a, B, H', cls, d, z1, z2, z3, z4, z5, z6, z7, z8, z9⟩ := q1
      exact ⟨a, B, H', cls, d, z1, z2, z3, z4, z5, z6, z7, z8, fun p hp => z9 p (List.mem_cons_of_mem _ hp)⟩
    | ok fl => exact False.elim hR
  · obtain ⟨_, _, _, _, _, _, _, _, hG, _⟩ := hY
    exact hG
  · refine ht.run (ip := []) (n := sizeLine) (ys := []) (gd := id) (lv := id) ⟨fun p _ hp => (nomatch hp), fun p hp => (nomatch hp), fun b hb => (nomatch hb), over_func, rfl, rfl, rfl⟩ (Nat.add_zero _) ⟨fun n ys s₀ s' fl hn hs => ?_, fun n s₀ e s' hx => ?_⟩ hU hq
    · cases fl with
      | next => obtain ⟨_, _, _, q⟩ := hs; exact False.elim q
      | brk => obtain ⟨_, _, _, q⟩ := hs; exact False.elim q
      | cont => obtain ⟨_, _, _, q⟩ := hs; exact False.elim q
      | ret u => obtain ⟨_, _, _, _, _, q⟩ := hs; exact False.elim q
    · refine seg_wrap ?_
      rw [over_func]
      have hx' : wpAny (model P w) (Aw.deeper (envOfC qual scope s.heap.objs.size f cdv)) (leaving (envOfC qual scope s.heap.objs.size f cdv) e) (fun _ s'' => CX P w outer H s (EPin E pn) e s'' ∧ ∀ p ∈ pn, s''.heap.get? p.1 = some p.2) (fun _ _ => False) s' := hx
      exact wpAny_mono hx' (fun _ s'' q => seg_end (.error e) q) fun _ s'' q => q.elim
theorem funFrames_but {base : Heap} {h h' : Heap} {z : Addr} (hsb : Heap.SameBut z h h') : ∀ {l : List Env}, h.FunFrames base l → z ∉ frs l → h'.FunFrames base l
  | [], _, _ => trivial
  | env :: l, q, hn => by
    obtain ⟨hk, ⟨L, o, hf, hb, ho, hd⟩, hr⟩ := q
    have ne : L ≠ z := fun e => hn (List.mem_filterMap.mpr ⟨env, List.mem_cons_self, by rw [hf, e]⟩)
    exact ⟨hk, ⟨L, o, hf, hb, hsb.extBut _ _ ne ho, hd⟩, funFrames_but hsb hr fun hm => hn (by
      obtain ⟨e, he, q⟩ := List.mem_filterMap.mp hm
      exact List.mem_filterMap.mpr ⟨e, List.mem_cons_of_mem _ he, q⟩)⟩
/-- an exception past a zip that turned, which is untracked -/
theorem cx_past {P : Program} {w : World} {outer : List Env} {H : Hp} {s t : Shared} {E : XK} {e : Value} {z TI TO : Addr} {bb : Bool} {h' : Heap}
    (c : CX P w outer H s (fun cls d H' => E cls d H' ∧ H' z = none) e t) (hz : IsZipB t.heap z TI TO .ellipsis bb) (hy : s.heap.objs.size ≤ z) (hsb : Heap.SameBut z t.heap h') (hfr : z ∉ frs outer) : CX P w outer H s E e { t with heap := h' } := by
  obtain ⟨a, B, H', cls, d, rfl, ⟨f1, f2, f3, oe, vs, T, oT, ts, t1, t2, t3, t4, t5, t6, t7, t8, t9⟩, hok, ub, na, os, ag, hE, hzn⟩ := c
  have az : a ≠ z := fun q => by
    rw [q, hz] at t1
    cases t1
    cases t3
    cases t4
  have Tz : T ≠ z := fun q => by
    rw [q, hz] at t7
    cases t7
    cases t8
    cases t9
  obtain ⟨G, g1, g2⟩ := restrict B fun b => decide (b ≠ z)
  have gz : ∀ b, b ≠ z → G.get? b = B.get? b := fun b hb => g1 b (decide_eq_true hb)
  have gn : G.get? z = none := g2 z (decide_eq_false (fun q => q rfl))
  have up : ∀ b o, b ≠ z → t.heap.get? b = some o → h'.get? b = some o := fun b o hb q => hsb.extBut _ _ hb q
  have Gne : ∀ b o, G.get? b = some o → b ≠ z ∧ B.get? b = some o := fun b o q => by
    have hb : b ≠ z := fun q2 => by rw [q2, gn] at q; cases q
    exact ⟨hb, by rw [← gz b hb]; exact q⟩
  have old : ∀ b o, s.heap.get? b = some o → b ≠ z := fun b o q => Nat.ne_of_lt (Nat.lt_of_lt_of_le (Heap.lt_size q) hy)
  refine ⟨a, G, H', cls, d, rfl, ⟨fun b o q => ?_, by rw [gz a az]; exact f2, ?_, oe, vs, T, oT, ts, up _ _ az t1, t2, t3, t4, by rw [gz T Tz]; exact t5, t6, up _ _ Tz t7, t8, t9⟩, fun b o q => ?_, ⟨fun b o q1 q2 q3 => ?_, fun b o q1 q2 => ?_, ub.free, fun b o q1 q2 => ?_, ub.tups, ub.frzs, ub.tbls⟩, na, os, ag, hE⟩
  · obtain ⟨hb, q⟩ := Gne b o q
    exact up b o hb (f1 b o q)
  · refine funFrames_but hsb (funFrames_none f3 fun L hL => ?_) hfr
    cases q : G.get? L with
    | none => rfl
    | some o =>
      obtain ⟨_, q⟩ := Gne L o q
      have := (Heap.FunFrames.mem f3 hL).1
      rw [this] at q
      cases q
  · have bz : ∀ c u, H' c = some u → c ≠ z := fun c u q2 q3 => by rw [q3, hzn] at q2; cases q2
    refine (hok b o q).stay (fun c u hc q2 => ?_) (fun _ q => q) fun _ _ q => q
    have cz : c ≠ z := by
      rcases hc with q3 | q3
      · rw [q3]; exact bz b o q
      · exact bz c _ q3
    rw [gz c cz]
    exact q2
  · rw [gz b (old b o q1)]
    exact ub.keep b o q1 q2 q3
  · obtain ⟨sl, q⟩ := ub.slot b o q1 q2
    exact ⟨sl, up _ _ (fun q3 => hfr (q3 ▸ q2)) q⟩
  · rw [gz b (old b o q1)]
    exact ub.there b o q1 q2
end FM
-- FmGenList
set_option maxRecDepth 100000
set_option maxHeartbeats 1000000
/-! next of a generator within another built-in's next; list(a zip). -/
namespace FM
open PySem PySem.Spec PyProof.Rows L2 GenW
open Sem (wp)
section
variable {P : Program} {w : World} {A : Around} {E : Value → Shared → Prop} {s : Shared}
/-- a generator that never ends by itself is asked for its next value -/
theorem gen_special {a : Addr} {g n : Nat} {gs : GenState} {R : GenEnd} {Y : Protocol} {Q : Option Value → Shared → Prop}
    (hl : s.heap.NoLimit) (hroom : A.depth < recursionLimit) (hg : s.heap.IsGen a g) (hgs : s.gens[g]? = some gs)
    (hgo : gs.Goes (model P w) A.in1 R Y n (.send .none) (s.setGen g .running))
    (hR : ∀ r s₁, R n (s.setGen g .running) r s₁ → ∃ e, r = .error e ∧ s₁.heap.IsGen a g ∧ NotStop (model P w) e s₁.heap ∧ E e (s₁.setGen g .finished))
    (hY : ∀ v s₁ gs', gs'.bare = true → Y (n - 1) (s.setGen g .running) v s₁ (fun r' s'' => match n with
        | 0 => False
        | m + 1 => gs'.Goes (model P w) A.in1 R Y m r' s'') → Q (some v) (s₁.setGen g gs')) :
    wpAny (model P w) A (callSpecial? (.ref a) "__next__") Q E s := by
  refine wpAny_callSpecial?_slot (name := Str.ofString "__next__") hg.typeIs slot_gen_next (wpAny_call_entry slot_gen_next hg.typeIs entry_gen_next ?_ (args_gen_next _))
  show wpAny _ A.in1 (Builtin.Generator.genWake (.ref a) (.send .none)) _ _ s
  unfold Builtin.Generator.genWake
  refine wpAny_bind (wpAny_holding (wpAny_genNumber hg (wpAny_bind (wpAny_genState hgs ?_))))
  cases gs with
  | running => exact hgo.elim
  | finished => exact hgo.elim
  | _ =>
    refine wpAny_bind (wpAny_roomToWake hl hroom ?_)
    show wpAny _ A.in1 (.resume g (.send .none) [] _) _ _ s
    refine wpAny_resumeQ hgs hgo (fun x s₁ hx => ?_) (fun v s₁ gs' hb hv => ?_)
    · obtain ⟨e, rfl, hg1, hns, hq⟩ := hR x s₁ hx
      obtain ⟨o, nm, qn, ho, hc, hd, hsl⟩ := hg1
      show wpAny _ A.in1 (Builtin.Generator.genLeft (.ref a) e) _ _ _
      unfold Builtin.Generator.genLeft Builtin.Generator.madeByALambda
      refine wpAny_bind (wpAny_bind (wpAny_load (o := o) ho (wpAny_pure ?_)))
      refine wpAny_bind (hns _ _ _ _ rfl ?_)
      rw [Bool.and_false, if_neg Bool.false_ne_true]
      unfold Builtin.Generator.genEscaped
      first
        | refine wpAny_bind (hns _ _ _ _ rfl ?_)
        | refine wpAny_bind (wpAny_pure (wpAny_bind (hns _ _ _ _ rfl ?_)))
      rw [if_pos (show (!false) = true from rfl)]
      first
        | exact wpAny_throw hq
        | exact wpAny_bind (wpAny_throw hq)
    · exact wpAny_pure ⟨v, rfl, hY v s₁ gs' hb hv⟩
/-- next of a zip -/
theorem next_zip {z : Addr} {Q : Option Value → Shared → Prop} (hT : s.TypeIs (.ref z) "zip")
    (h : wpAny (model P w) A.in1 (Builtin.«zip.__next__» ⟨[.ref z], []⟩) (fun fin s' => ∃ v, fin = .done (.ret v) ∧ Q (some v) s')
      (fun e s' => (∃ b, e = .ref b ∧ (∃ o, s'.heap.get? b = some o ∧ o.cls = .type "StopIteration") ∧ Q none s') ∨ (NotStop (model P w) e s'.heap ∧ E e s')) s) :
    wpAny (model P w) A (pyNext (.ref z)) Q E s := by
  unfold pyNext
  refine wpAny_bind (wpAny_attempt (wpAny_callSpecial?_slot (name := Str.ofString "__next__") hT F.slot_zip_next
    (wpAny_call_entry F.slot_zip_next hT F.entry_zip_next (wpAny_mono h (fun fin s' hv => ?_) fun e s' he => ?_) (F.args_zip_next_1 _))))
  · obtain ⟨v, rfl, q⟩ := hv
    exact ⟨v, rfl, wpAny_pure q⟩
  · rcases he with ⟨b, rfl, ⟨o, ho, hc⟩, q⟩ | ⟨hns, q⟩
    · refine wpAny_bind (wpAny_isInstance (T := "StopIteration") (b := true) ⟨o, ho, hc⟩ isSubtype_stop ?_)
      exact wpAny_pure q
    · refine wpAny_bind (hns _ _ _ _ rfl ?_)
      rw [if_neg Bool.false_ne_true]
      exact wpAny_throw q
theorem nolen_zip : typeLookup (.type "zip") "__len__" = pure none := by rw [typeLookup_type, builtinLookup_eq_fast]; kernel_rfl
theorem nohint_zip : typeLookup (.type "zip") "__length_hint__" = pure none := by rw [typeLookup_type, builtinLookup_eq_fast]; kernel_rfl
/-- list(z), up to its loop -/
theorem list_zip {z TI TO : Addr} {f0 : Value} {Q : Value → Shared → Prop} (hz : IsZip s.heap z TI TO f0)
    (h : ∀ (h' : Heap) (R : Result → Shared → Prop), (∃ c, h'.get? s.heap.objs.size = some (lstObj #[] c)) → (∀ b o, s.heap.get? b = some o → h'.get? b = some o) → h'.objs.size = s.heap.objs.size + 1 →
      (∀ s', Q (.ref s.heap.objs.size) s' → R (.ok (.ret .none)) s') → (∀ e s', E e s' → R (.error e) s') →
      codeAny (model P w) A.in1 (.builtin "list.extend.loop" ⟨[.ref s.heap.objs.size, .ref z, .none], []⟩) R { s with heap := h' }) :
    wpAny (model P w) A (call (.type "list") [.ref z]) Q E s := by
  have hzl : z < s.heap.objs.size := Heap.lt_size hz
  have hSz : s.heap.objs.size ≠ z := Nat.ne_of_gt hzl
  refine callType_codes (Q₁ := fun obj s₁ => obj = .ref s.heap.objs.size ∧ s₁ = { s with heap := s.heap.push { cls := .type "list", data := .seq #[] } }) F.called_list (F.typeCall_list_1 _) F.entry_list_init
    (code_list_new _ ⟨rfl, rfl⟩) fun obj s₁ h₁ => ?_
  obtain ⟨rfl, rfl⟩ := h₁
  have hS : (s.heap.push { cls := .type "list", data := .seq #[] }).get? s.heap.objs.size = some { cls := .type "list", data := .seq #[] } := Heap.get?_push_size _ rfl
  refine ⟨⟨_, hS, rfl⟩, F.args_list_init_2 _ _, ?_⟩
  show wpAny _ A.in1.in1 (do let old ← Builtin.List.listItems (.ref s.heap.objs.size); Builtin.List.listUpdate (.ref s.heap.objs.size) (fun _ => #[]); letGo old.toList.reverse; Builtin.List.listExtendWith (.ref s.heap.objs.size) (.ref z) .none) _ _ _
  refine wpAny_bind ?_
  unfold Builtin.List.listItems
  refine wpAny_bind (wpAny_seqItems hS rfl (wpAny_pure ?_))
  show wpAny _ A.in1.in1 (updateSeq s.heap.objs.size (fun _ => #[]) >>= fun _ => letGo (#[] : Array Value).toList.reverse >>= fun _ => Builtin.List.listExtendWith (.ref s.heap.objs.size) (.ref z) .none) _ _ _
  refine wpAny_bind (wpAny_updateSeq hS rfl ?_)
  have hS2 := Heap.get?_update_self (Obj.mapSeq (fun _ => (#[] : Array Value))) hS rfl
  refine wpAny_bind (wpAny_letGo ?_)
  unfold Builtin.List.listExtendWith
  have up : ∀ (h : Heap) (f : Obj → Obj), (∀ b o, s.heap.get? b = some o → h.get? b = some o) → ∀ b o, s.heap.get? b = some o → (h.update s.heap.objs.size f).get? b = some o := fun h f q b o e =>
    (Heap.get?_update_other _ _ (Ne.symm (Nat.ne_of_lt (Heap.lt_size e)))).trans (q b o e)
  have k1 : ∀ b o, s.heap.get? b = some o → (s.heap.push { cls := .type "list", data := .seq #[] }).get? b = some o := fun b o e => Heap.get?_push_of_some _ e
  have k2 := up _ (Obj.mapSeq (fun _ => (#[] : Array Value))) k1
  have gty : ∀ {h : Heap}, (∀ b o, s.heap.get? b = some o → h.get? b = some o) → ({ s with heap := h } : Shared).TypeIs (.ref z) "zip" := fun {h} q => ⟨_, q _ _ hz, rfl⟩
  refine wpAny_bind (wpAny_typeOf (gty k2) ?_)
  have h1 : Builtin.List.listSameRef (.ref s.heap.objs.size) (.ref z) = false := by simp [Builtin.List.listSameRef, hSz]
  have h2 : (Value.type "zip" == Value.type "list") = false := by decide
  have h3 : (Value.type "zip" == Value.type "tuple") = false := by decide
  simp only [h1, h2, h3, Bool.or_false, Bool.false_eq_true, if_false]
  refine wpAny_bind (wpAny_pyIter_zip (s := { s with heap := _ }) (k2 _ _ hz) ?_)
  refine wpAny_bind (wpAny_holding ?_)
  unfold Builtin.List.listLengthHint
  refine wpAny_bind (wpAny_specialOf (gty k2) nolen_zip ?_)
  show wpAny _ A.in1.in1 (specialOf (Value.ref z) (Str.ofString "__length_hint__") >>= _) _ _ _
  refine wpAny_bind (wpAny_specialOf (gty k2) nohint_zip ?_)
  refine wpAny_pure ?_
  show wpAny _ A.in1.in1 (rule "list.extend.makes-room" >>= fun _ => Builtin.List.listTouch (.ref s.heap.objs.size) >>= fun _ =>
    again (.builtin "list.extend.loop" ⟨[.ref s.heap.objs.size, .ref z, .none], []⟩)) _ _ _
  refine wpAny_bind (wpAny_rule ?_)
  refine wpAny_bind ?_
  show wpAny _ A.in1.in1 (updateSeq s.heap.objs.size (·.push .none) >>= fun _ => updateSeq s.heap.objs.size (·.pop)) _ _ _
  refine wpAny_bind (wpAny_updateSeq hS2 rfl ?_)
  have hS3 := Heap.get?_update_self (Obj.mapSeq (·.push Value.none)) hS2 rfl
  refine wpAny_updateSeq (hz := by seq_fits) hS3 rfl ?_
  have hS4 := Heap.get?_update_self (Obj.mapSeq (·.pop)) hS3 rfl
  have k4 := up _ (Obj.mapSeq (·.pop)) (up _ (Obj.mapSeq (·.push Value.none)) k2)
  refine wpAny_pure ⟨plainId_quiet F.plain_extend_loop _, ?_⟩
  refine h _ _ ⟨_, hS4⟩ k4 ?_ (fun s' q => ⟨rfl, q⟩) fun e s' q => q
  rw [Heap.size_update, Heap.size_update, Heap.size_update, Heap.size_push]
/-- the loop's next turn: an item, the end, an exception -/
theorem extend_turn {L z : Addr} {R : Result → Shared → Prop} (hT : s.TypeIs (.ref z) "zip")
    (h : wpAny (model P w) A.in1.in1 (Builtin.«zip.__next__» ⟨[.ref z], []⟩)
      (fun fin s' => ∃ v, fin = .done (.ret v) ∧ ∃ acc c, s'.heap.get? L = some (lstObj acc c) ∧ acc.size < sizeLine ∧
        codeAny (model P w) A (.builtin "list.extend.loop" ⟨[.ref L, .ref z, .none], []⟩) R { s' with heap := s'.heap.update L (Obj.mapSeq (·.push v)) })
      (fun e s' => (∃ b, e = .ref b ∧ (∃ o, s'.heap.get? b = some o ∧ o.cls = .type "StopIteration") ∧ R (.ok (.ret .none)) s') ∨ (NotStop (model P w) e s'.heap ∧ R (.error e) s')) s) :
    codeAny (model P w) A (.builtin "list.extend.loop" ⟨[.ref L, .ref z, .none], []⟩) R s := by
  refine codeAny_builtin F.entry_extend_loop ?_
  rw [Around.under_plainId F.plain_extend_loop _]
  show wpAny _ A.in1 (pyNext (.ref z) >>= _) _ _ s
  refine wpAny_bind (next_zip hT (wpAny_mono h (fun fin s' hv => ?_) fun e s' he => ?_))
  · obtain ⟨v, rfl, acc, c, hL, hsz, hc⟩ := hv
    refine ⟨v, rfl, ?_⟩
    show wpAny _ A.in1 (updateSeq L (·.push v) >>= _) _ _ _
    refine wpAny_bind ?_
    exact wpAny_updateSeq hL rfl (wpAny_pure ⟨plainId_quiet F.plain_extend_loop _, hc⟩) (Nat.le_of_lt hsz) (by show (acc.push v).size ≤ sizeLine + 1; rw [Array.size_push]; omega)
  · rcases he with ⟨b, rfl, ho, q⟩ | q
    · exact .inl ⟨b, rfl, ho, wpAny_pure q⟩
    · exact .inr q
end
end FM
-- FmGenEx
set_option maxRecDepth 100000
set_option maxHeartbeats 1000000
/-! The expression list(zip(range(n), g(..))). -/
namespace FM
open PySem PySem.Spec PyProof.Rows L2 GenW
open Sem (wp)
section
variable {X : Cx}
/-- a range object over a literal -/
structure PRn (X : Cx) (e : Expr) (n : Int) : Prop where
  run : ∀ (pins : List (Addr × Obj)) (s : Shared) (σ : L2.St) (H : Hp), Inv X pins σ H s → wpAny (model X.prog X.w) X.A (eval e X.env) (fun x s1 => ∃ r t u v, x = .ref r ∧ IsRange s1.heap r 0 n 1 t u v ∧ Inv X pins σ H s1 ∧ FpOk X pins H r) X.xe s
theorem prn {a : Expr} {n : Int} {p pos : Pos} (hg : Gl X "range") (hm : X.mg "range" = none) (ha : PE X a (tC (.int n))) (na : starEach [a] X.env = (false, eval a X.env) :: starEach [] X.env := by rfl) : PRn X (.Call (.Name "range" p) [a] [] pos) n := by
  refine ⟨fun pins s σ H I => ?_⟩
  refine Call_ (ld_blt I hg hm PyProof.Rows.boot_range (PyProof.Rows.callWith_type1 (one_arg (R := fun x H' => x = .int n ∧ H' = H) ha I ⟨rfl, rfl⟩ (fun v s2 x H2 I2 r q => ?_) na) na))
  obtain ⟨rfl, rfl⟩ := q
  obtain ⟨t, rfl⟩ := r
  refine call_range_1 ⟨_, _, _, _, rfl, IsRange.new _ _ _ _ _ _ _, I2.kept fun b u e => Heap.get?_push_of_some _ e, I2.fpOk (Nat.le_refl _) (I2.hok.fresh (Nat.le_refl _))⟩
theorem lz_prefix {er e : Expr} {n : Int} {Q : Value → Shared → Prop} {pins : List (Addr × Obj)} {s : Shared} {σ : L2.St} {H : Hp} {p p2 pos pos2 : Pos} (I : Inv X pins σ H s) (hr0 : PRn X er n)
    (hsm : Builtin.Range.small 0 n 1 = true) (hsz : Builtin.Range.rangeSize 0 n 1 = n) (hgl : Gl X "list") (hml : X.mg "list" = none) (hgz : Gl X "zip") (hmz : X.mg "zip" = none)
    (h : ∀ r s1, Inv X (pins ++ pinsAt [r] s1.heap) σ H s1 → (∃ o, s1.heap.get? r = some o) → wpAny (model X.prog X.w) X.A (eval e X.env) (fun u s2 => ∃ a g, u = .ref a ∧ s2.heap.IsGen a g ∧ (∀ o, s1.heap.get? r = some o → s2.heap.get? r = some o) ∧
      ∀ (h3 : Heap) (R : Result → Shared → Prop), IsZip h3 (s2.heap.objs.size + 3) (s2.heap.objs.size + 1) (s2.heap.objs.size + 2) .none → IsTupOf2 h3 (s2.heap.objs.size + 1) (.ref s2.heap.objs.size) (.ref a) → IsTupOf2 h3 (s2.heap.objs.size + 2) .none .none →
        IsRangeIter h3 s2.heap.objs.size 0 n 1 → (∃ c, h3.get? (s2.heap.objs.size + 4) = some (lstObj #[] c)) → (∀ b o, s2.heap.get? b = some o → h3.get? b = some o) →
        (∀ s', Q (.ref (s2.heap.objs.size + 4)) s' → R (.ok (.ret .none)) s') → (∀ e s', X.xe e s' → R (.error e) s') →
        codeAny (model X.prog X.w) X.A.in1 (.builtin "list.extend.loop" ⟨[.ref (s2.heap.objs.size + 4), .ref (s2.heap.objs.size + 3), .none], []⟩) R { s2 with heap := h3 }) X.xe s1)
    (he1 : starEach [.Call (.Name "zip" p2) [er, e] [] pos2] X.env = (false, eval (.Call (.Name "zip" p2) [er, e] [] pos2) X.env) :: starEach [] X.env := by rfl)
    (he2 : starEach [er, e] X.env = (false, eval er X.env) :: starEach [e] X.env := by rfl) (he3 : starEach [e] X.env = (false, eval e X.env) :: starEach [] X.env := by rfl) (hpl : (backTo pos2 (starEach [e] X.env)).any (·.1) = false := by rfl) :
    wpAny (model X.prog X.w) X.A (eval (.Call (.Name "list" p) [.Call (.Name "zip" p2) [er, e] [] pos2] [] pos) X.env) Q X.xe s := by
  refine Call_ (ld_blt I hgl hml PyProof.Rows.boot_list (PyProof.Rows.callWith_type1 (args_cons ?_ he1) he1 rfl))
  refine Call_ (ld_blt I hgz hmz PyProof.Rows.boot_zip (PyProof.Rows.callWith_type1 (args_cons (thn (hr0.run pins s σ H I) fun v1 s1 h1 => args_cons ?_ he3) he2) he2 hpl))
  obtain ⟨r, t, u, v, rfl, hr, I1, fr⟩ := h1
  have I1' : Inv X (pins ++ pinsAt [r] s1.heap) σ H s1 := I1.pinned (fun b hb => by rw [List.mem_singleton.mp hb]; exact fr) fun b hb => by
    rw [List.mem_singleton.mp hb]
    exact ⟨_, hr, fun v q => by cases q⟩
  refine thn (h r s1 I1' ⟨_, hr⟩) fun v2 s2 h2 => args_nil ?_
  obtain ⟨a, g, rfl, hg, hkr, go⟩ := h2
  refine zip_rg (n := n) (g := g) ⟨⟨t, u, v, hkr _ hr⟩, hsm, hsz, hg⟩ fun h' z1 z2 z3 z4 z5 z6 => args_nil ?_
  refine list_zip (s := { s2 with heap := h' }) z1 fun h3 R q1 q2 q3 q4 q5 => ?_
  have e4 : h'.objs.size = s2.heap.objs.size + 4 := z5
  dsimp only at q1 q2 q3 q4 q5 ⊢
  rw [e4] at q1 q4 ⊢
  exact go h3 R (q2 _ _ z1) (q2 _ _ z2) (q2 _ _ z3) (q2 _ _ z4) q1 (fun b o q => q2 _ _ (z6 _ _ q)) q4 q5
/-- an expression whose value is a generator that raises when it is woken -/
abbrev TRen := L2.St → Hp → (Hp → Prop) → Prop
structure PRen (X : Cx) (k : Nat) (e : Expr) (tr : TRen) (E : XK) : Prop where
  run : ∀ (pins : List (Addr × Obj)) (s : Shared) (σ : L2.St) (H : Hp) (B : Hp → Prop), Inv X pins σ H s → tr σ H B → wpAny (model X.prog X.w) X.A (eval e X.env)
    (fun u s1 => ∃ H1 sc, Inv X pins σ H1 sc ∧ RMade X.prog X.w k X.stack H1 sc E u s1 ∧ B H1) X.xe s
theorem pren_call {k : Nat} {f : Addr} {fd : FuncData} {ps : List Str} {sp : SpR} {dvs : List V} {ds : List Value} {x : Str} {p pos : Pos} {E : XK} {e : Expr} {es : List Expr} {t : TA} (F : RFn X.prog X.w X.K X.mg X.base k f fd ps sp) (hr : Room k X.A) (hg : Gl X x) (hm : X.mg x = some (.ref f)) (hk : PySem.W.keepIn X.K (.ref f) = true) (hb : Binds X.K fd ps ds) (hd : Vals dvs ds)
    (ha : PA X (e :: es) t) (hdb : (x == ("__debug__" : Str)) = false := by decide) (he : starEach (e :: es) X.env = (false, eval e X.env) :: starEach es X.env := by rfl) (hpl : (backTo pos (starEach es X.env)).any (·.1) = false := by rfl) :
    PRen X k (.Call (.Name x p) (e :: es) [] pos) (fun σ H B => t σ H fun vs H1 => sp (vs ++ dvs) H1 E ∧ B H1) E := by
  refine ⟨fun pins s σ H B I h => ?_⟩
  refine wpAny_Call_Name_kw (ld_glob I hg hm ?_ hdb)
  refine PySem.W.callWith_K (h₀ := X.base) I.ok.mod.kin hk (thn (ha.run pos pins s σ H _ I h) fun us s1 ⟨vs, H1, I1, r, q⟩ => ⟨I1.kIn, ?_⟩) he hpl
  have r2 : Vals (vs ++ dvs) (us ++ ds) := r.append hd
  have hl2 : (us ++ ds).length = ps.length := by rw [← r2.length]; exact F.len _ _ _ q.1
  refine wpAny_call (codeAny_mono (F.run X.A X.stack s1 H1 ⟨us, []⟩ (us ++ ds) (vs ++ dvs) E hr I1.env0 (hb s1 us I1.kIn hl2) r2 q.1) fun r s' hq => ?_)
  cases r with
  | error e => exact False.elim hq
  | ok fl =>
    cases fl with
    | ret u => exact ⟨H1, s1, I1, hq, q.2⟩
    | next => exact False.elim hq
    | brk => exact False.elim hq
    | cont => exact False.elim hq
theorem zap (N : Nat) : ZApart (N + 3) (N + 1) (N + 2) N := ⟨by show (N + 1 : Nat) ≠ N + 3; omega, by show (N + 2 : Nat) ≠ N + 3; omega, by show (N : Nat) ≠ N + 3; omega, by show (N + 1 : Nat) ≠ N + 2; omega, by show (N + 1 : Nat) ≠ N; omega, by show (N + 2 : Nat) ≠ N; omega⟩
theorem inv_onward {pins : List (Addr × Obj)} {σ : L2.St} {H : Hp} {s t : Shared} (I : Inv X pins σ H s) (os : t.os = s.os) (hb : AllBare t.gens) (hk : ∀ b o, s.heap.get? b = some o → t.heap.get? b = some o) : Inv X pins σ H t :=
  I.call' (ch := []) os (Un.kept hk) (I.hok.kept hk) hb fun b z => (nomatch z)
/-- list(zip(range(0), g)): the generator never begins -/
theorem pe_lz0 {k : Nat} {er e : Expr} {tr : TRen} {E : XK} {p p2 pos pos2 : Pos} (hr0 : PRn X er 0) (h : PRen X k e tr E) (hh : X.A.handled = none) (hgl : Gl X "list") (hml : X.mg "list" = none) (hgz : Gl X "zip") (hmz : X.mg "zip" = none)
    (he1 : starEach [.Call (.Name "zip" p2) [er, e] [] pos2] X.env = (false, eval (.Call (.Name "zip" p2) [er, e] [] pos2) X.env) :: starEach [] X.env := by rfl)
    (he2 : starEach [er, e] X.env = (false, eval er X.env) :: starEach [e] X.env := by rfl) (he3 : starEach [e] X.env = (false, eval e X.env) :: starEach [] X.env := by rfl) (hpl : (backTo pos2 (starEach [e] X.env)).any (·.1) = false := by rfl) :
    PE X (.Call (.Name "list" p) [.Call (.Name "zip" p2) [er, e] [] pos2] [] pos) (fun σ H Q => tr σ H fun H1 => ∀ q, H1 q = none → Q (.ref q) H1) := by
  refine ⟨fun pins s σ H Q I hq => ?_⟩
  refine lz_prefix I hr0 (by decide) (by decide) hgl hml hgz hmz (fun r s1 I1 hrr => thn (h.run _ s1 σ H _ I1 hq) fun u s2 hm => ?_) he1 he2 he3 hpl
  obtain ⟨H1, sc, I2, ⟨a, g, c, rfl, m1, m2, mg, mgs, mos, mb, ml, mk, _⟩, hB⟩ := hm
  refine ⟨a, g, rfl, mg, fun o eo => mk _ _ (I2.pin (r, o) (List.mem_append_right _ (List.mem_append_right _ (mem_pinsAt (List.mem_singleton.mpr rfl) eo)))).1, fun h3 R z1 z2 z3 z4 z5 z6 z7 z8 => ?_⟩
  have ssz : sc.heap.objs.size ≤ s2.heap.objs.size := Nat.le_trans m1 (Nat.le_of_lt m2)
  refine extend_turn ⟨_, z1, rfl⟩ (zip_end0 hh (zap _) z1 (.inl rfl) z2 z3 z4 (Int.le_refl 0) fun h' b hk ho => .inl ⟨b, rfl, ho, z7 _ ⟨.ref _, H1, inv_onward I2.unpinned mos mb fun b' o' q => ?_, rfl, hB _ (I2.hok.fresh (Nat.le_trans ssz (Nat.le_add_right _ _)))⟩⟩)
  have lt : b' < s2.heap.objs.size := Nat.lt_of_lt_of_le (Heap.lt_size q) ssz
  exact hk _ _ (Nat.ne_of_lt (Nat.lt_of_lt_of_le lt (Nat.le_add_right _ _))) (Nat.ne_of_lt (Nat.lt_of_lt_of_le lt (Nat.le_add_right _ _))) (Nat.ne_of_lt lt) (z6 _ _ (mk _ _ q))
/-- list(zip(range(n), g)), n not 0: the generator's first step raises -/
theorem pe_lzR {k : Nat} {er e : Expr} {tr : TRen} {E : XK} {n : Int} {p p2 pos pos2 : Pos} (hr0 : PRn X er n) (h : PRen X k e tr E) (hn : 0 < n) (hsm : Builtin.Range.small 0 n 1 = true) (hsz : Builtin.Range.rangeSize 0 n 1 = n)
    (hx : Passes (CX X.prog X.w) X E) (hns : NoStop X.K E) (hr : Room (k + 3) X.A) (hgl : Gl X "list") (hml : X.mg "list" = none) (hgz : Gl X "zip") (hmz : X.mg "zip" = none)
    (he1 : starEach [.Call (.Name "zip" p2) [er, e] [] pos2] X.env = (false, eval (.Call (.Name "zip" p2) [er, e] [] pos2) X.env) :: starEach [] X.env := by rfl)
    (he2 : starEach [er, e] X.env = (false, eval er X.env) :: starEach [e] X.env := by rfl) (he3 : starEach [e] X.env = (false, eval e X.env) :: starEach [] X.env := by rfl) (hpl : (backTo pos2 (starEach [e] X.env)).any (·.1) = false := by rfl) :
    PE X (.Call (.Name "list" p) [.Call (.Name "zip" p2) [er, e] [] pos2] [] pos) (fun σ H _ => tr σ H fun _ => True) := by
  refine ⟨fun pins s σ H Q I hq => ?_⟩
  refine lz_prefix I hr0 hsm hsz hgl hml hgz hmz (fun r s1 I1 hrr => thn (h.run _ s1 σ H _ I1 hq) fun u s2 hm => ?_) he1 he2 he3 hpl
  obtain ⟨H1, sc, I2, ⟨a, g, c, rfl, m1, m2, mg, mgs, mos, mb, ml, mk, wake⟩, _⟩ := hm
  refine ⟨a, g, rfl, mg, fun o eo => mk _ _ (I2.pin (r, o) (List.mem_append_right _ (List.mem_append_right _ (mem_pinsAt (List.mem_singleton.mpr rfl) eo)))).1, fun h3 R z1 z2 z3 z4 z5 z6 z7 z8 => ?_⟩
  have ssz : sc.heap.objs.size ≤ s2.heap.objs.size := Nat.le_trans m1 (Nat.le_of_lt m2)
  refine extend_turn ⟨_, z1, rfl⟩ (zip_turn0 (zap _) z1 (.inl rfl) z2 z3 z4 hn fun h1 tk t y1 y2 y3 y4 y5 => ?_)
  have old : ∀ b o, s2.heap.get? b = some o → h1.get? b = some o := fun b o q => by
    have lt : b < s2.heap.objs.size := Heap.lt_size q
    exact y5 b o (Nat.ne_of_lt (Nat.lt_of_lt_of_le lt (Nat.le_add_right _ _))) (Nat.ne_of_lt (Nat.lt_of_lt_of_le lt (Nat.le_add_right _ _))) (Nat.ne_of_lt lt) (z6 b o q)
  let C : List Addr := [s2.heap.objs.size + 3, s2.heap.objs.size + 2, s2.heap.objs.size]
  have hC : ∀ b ∈ C, s2.heap.objs.size ≤ b ∧ ∃ o, h1.get? b = some o ∧ ∀ v, o.data ≠ .cell v := fun b hb => by
    have q : b = s2.heap.objs.size + 3 ∨ b = s2.heap.objs.size + 2 ∨ b = s2.heap.objs.size := by simpa [C] using hb
    rcases q with q | q | q
    · rw [q]; exact ⟨Nat.le_add_right _ _, _, y1, fun v q => by cases q⟩
    · rw [q]; exact ⟨Nat.le_add_right _ _, _, y2, fun v q => by cases q⟩
    · rw [q]; exact ⟨Nat.le_refl _, _, y3, fun v q => by cases q⟩
  have sg := wake X.A.in1.in1.in1.in1 C (({ s2 with heap := h1, toks := tk } : Shared).setGen g .running) ⟨hr.hd, by have := hr.dp; show X.A.depth + 3 * k + 5 < _; omega, by have := hr.un; show X.A.units + 1 + 1 + 1 + 1 + 16 * k + 200 < _; omega⟩ I2.ok.frames
    (fun b hb => (hC b hb).1) old (fun b hb => (hC b hb).2) mos (allBare_setGen (s := { s2 with heap := h1, toks := tk }) mb rfl)
  refine gen_special (ml.keeps old) (by have := hr.dp; show X.A.depth < _; omega) (mg.keeps old) (n := sizeLine) mgs ⟨rfl, sg⟩ (fun r s₁ hR => ?_) fun v s₁ gs' hb hv => False.elim hv
  obtain ⟨e, rfl, hc, hg1, still⟩ := hR
  have zin : s2.heap.objs.size + 3 ∈ C := List.mem_cons_self
  have hz1 : IsZipB s₁.heap (s2.heap.objs.size + 3) (s2.heap.objs.size + 1) (s2.heap.objs.size + 2) .ellipsis false := still _ zin _ y1
  have hcE : CX X.prog X.w X.stack H1 sc (fun cls d H' => E cls d H' ∧ H' (s2.heap.objs.size + 3) = none) e (s₁.setGen g .finished) := by
    obtain ⟨a, B, H', cls, d, q1, q2, q3, q4, q5, q6, q7, q8, q9⟩ := hc
    exact ⟨a, B, H', cls, d, q1, q2, q3, q4, q5, q6, allBare_setGen q7 rfl, q8, q9 _ (mem_pinsAt zin y1)⟩
  have kinOf : ∀ {e : Value} {s' : Shared}, CX X.prog X.w X.stack H1 sc E e s' → X.K.In s'.heap := fun {e s'} hc => by
    obtain ⟨a, B, H', cls, d, _, fl, _, ub, _⟩ := id hc
    refine I2.ok.mod.kin.keeps fun b o eb => fl.1 b o (ub.keep b o (I2.bs b o eb).1 (I2.bs b o eb).2 fun hm => ?_)
    rcases List.mem_cons.mp (I2.stkSub b hm) with z | z
    · have q1 := Heap.lt_size eb
      have q2 := Nat.le_trans I2.ok.bsz I2.ok.above
      rw [z] at q1
      exact absurd (Nat.lt_of_lt_of_le q1 q2) (Nat.lt_irrefl _)
    · exact I2.ok.nofr eb z
  have zfr : s2.heap.objs.size + 3 ∉ frs X.stack := fun hm => by
    rcases List.mem_cons.mp (I2.stkSub _ hm) with z | z
    · exact absurd (Nat.lt_of_lt_of_le I2.lt (Nat.le_trans ssz (Nat.le_add_right _ 3))) (by rw [z]; exact Nat.lt_irrefl _)
    · exact I2.nofs (Nat.le_trans ssz (Nat.le_add_right _ 3)) z
  have ysz : sc.heap.objs.size ≤ s2.heap.objs.size + 3 := Nat.le_trans ssz (Nat.le_add_right _ _)
  have plain : CX X.prog X.w X.stack H1 sc E e s₁ := by
    obtain ⟨a, B, H', cls, d, q1, q2, q3, q4, q5, q6, q7, q8, _⟩ := hc
    exact ⟨a, B, H', cls, d, q1, q2, q3, q4, q5, q6, q7, q8⟩
  refine ⟨e, rfl, hg1, notStop_of hns (kinOf plain) plain, hz1, fun h' hz' hsb => .inr ?_⟩
  have fin := cx_past hcE hz1 ysz hsb zfr
  exact ⟨notStop_of hns (kinOf fin) fin, z8 _ _ (hx _ σ H1 sc e _ I2 fin)⟩
end
end FM
-- FmGenNs
set_option maxRecDepth 100000
set_option maxHeartbeats 2000000
/-! list(zip(range(n), g)) where g hands out n items and sleeps. -/
namespace FM
open PySem PySem.Spec PyProof.Rows L2 GenW
open Sem (wp)
theorem un_but {fs C : List Addr} {H H' : Hp} {h h1 h2 : Heap} (u : Un fs [] H H' h h1) (hC : ∀ b ∈ C, h.objs.size ≤ b) (hf : ∀ b ∈ C, b ∉ fs) (hk : ∀ b o, b ∉ C → h1.get? b = some o → h2.get? b = some o) : Un fs [] H H' h h2 := by
  have nC : ∀ b o, h.get? b = some o → b ∉ C := fun b o q hb => absurd (Nat.lt_of_lt_of_le (Heap.lt_size q) (hC b hb)) (Nat.lt_irrefl _)
  refine ⟨fun b o q n f x => hk b o (nC b o q) (u.keep b o q n f x), fun b o q n f x => ?_, u.free, fun b o q x => ?_, u.tups, u.frzs, u.tbls⟩
  · obtain ⟨sl, e⟩ := u.slot b o q n f x
    exact ⟨sl, hk b _ (nC b o q) e⟩
  · obtain ⟨o', e⟩ := u.there b o q x
    exact ⟨o', hk b o' (nC b o q) e⟩
theorem hok_but {P : Program} {w : World} {C : List Addr} {H : Hp} {h h' : Heap} (x : HOk P w H h) (hn : ∀ b ∈ C, H b = none) (hk : ∀ b o, b ∉ C → h.get? b = some o → h'.get? b = some o) : HOk P w H h' := fun b o q => by
  have nt : ∀ c u, H c = some u → c ∉ C := fun c u e hc => by
    have := hn c hc
    rw [e] at this
    cases this
  refine (x b o q).stay (fun c u hc e => hk c u ?_ e) (fun _ q => q) fun _ _ q => q
  rcases hc with z | z
  · rw [z]; exact nt b o q
  · exact nt c _ z
section
variable {X : Cx}
abbrev TZen := L2.St → Hp → Gd → Prop
structure PZen (X : Cx) (k : Nat) (e : Expr) (tz : TZen) : Prop where
  run : ∀ (pins : List (Addr × Obj)) (s : Shared) (σ : L2.St) (H : Hp) (G : Gd), Inv X pins σ H s → tz σ H G → wpAny (model X.prog X.w) X.A (eval e X.env)
    (fun u s1 => ∃ H1 sc, Inv X pins σ H1 sc ∧ ZMade X.prog X.w k X.stack H1 sc G (fun _ _ => False) (fun _ _ _ => False) u s1) X.xe s
theorem pzen_call {k : Nat} {f : Addr} {fd : FuncData} {ps : List Str} {sp : SpZ} {dvs : List V} {ds : List Value} {x : Str} {p pos : Pos} {e : Expr} {es : List Expr} {t : TA} (F : ZFn X.prog X.w X.K X.mg X.base k f fd ps sp) (hr : Room k X.A) (hg : Gl X x) (hm : X.mg x = some (.ref f)) (hk : PySem.W.keepIn X.K (.ref f) = true) (hb : Binds X.K fd ps ds) (hd : Vals dvs ds)
    (ha : PA X (e :: es) t) (hdb : (x == ("__debug__" : Str)) = false := by decide) (he : starEach (e :: es) X.env = (false, eval e X.env) :: starEach es X.env := by rfl) (hpl : (backTo pos (starEach es X.env)).any (·.1) = false := by rfl) :
    PZen X k (.Call (.Name x p) (e :: es) [] pos) (fun σ H G => t σ H fun vs H1 => sp (vs ++ dvs) H1 G (fun _ _ => False) (fun _ _ _ => False)) := by
  refine ⟨fun pins s σ H G I h => ?_⟩
  refine wpAny_Call_Name_kw (ld_glob I hg hm ?_ hdb)
  refine PySem.W.callWith_K (h₀ := X.base) I.ok.mod.kin hk (thn (ha.run pos pins s σ H _ I h) fun us s1 ⟨vs, H1, I1, r, q⟩ => ⟨I1.kIn, ?_⟩) he hpl
  have r2 : Vals (vs ++ dvs) (us ++ ds) := r.append hd
  have hl2 : (us ++ ds).length = ps.length := by rw [← r2.length]; exact F.len _ _ _ _ _ q
  refine wpAny_call (codeAny_mono (F.run X.A X.stack s1 H1 ⟨us, []⟩ (us ++ ds) (vs ++ dvs) G _ _ hr I1.env0 (hb s1 us I1.kIn hl2) r2 q) fun r s' hq => ?_)
  cases r with
  | error e => exact False.elim hq
  | ok fl =>
    cases fl with
    | ret u => exact ⟨H1, s1, I1, hq⟩
    | next => exact False.elim hq
    | brk => exact False.elim hq
    | cont => exact False.elim hq
/-- the objects of such a zip and of the list that is filled -/
abbrev zC (N : Addr) : List Addr := [N + 3, N + 2, N, N + 4, N + 1]
theorem mem_zC {N b : Addr} : b ∈ zC N ↔ b = N + 3 ∨ b = N + 2 ∨ b = N ∨ b = N + 4 ∨ b = N + 1 := by simp [zC]
/-- ahead of turn j -/
structure ZL (P : Program) (w : World) (A4 : Around) (outer : List Env) (H1 : Hp) (sc : Shared) (G : Gd) (N a : Addr) (g : Nat) (n : Int) (j : Nat) (s : Shared) : Prop where
  zip : ∃ f0 b, IsZipB s.heap (N + 3) (N + 1) (N + 2) f0 b ∧ (f0 = .none ∨ ∃ T : Addr, f0 = rawInt T)
  TI : IsTupOf2 s.heap (N + 1) (.ref N) (.ref a)
  TO : ∃ a1 a2, IsTupOf2 s.heap (N + 2) a1 a2
  rg : IsRangeIter s.heap N j (n - j) 1
  L : ∃ acc c, s.heap.get? (N + 4) = some (lstObj acc c) ∧ acc.size = j
  gen : s.heap.IsGen a g
  lim : s.heap.NoLimit
  os : s.os = sc.os
  bare : AllBare s.gens
  hp : ∃ H', Un (frs outer) [] H1 H' sc.heap s.heap ∧ HOk P w H' s.heap ∧ (∀ b ∈ zC N, H' b = none) ∧ (0 < j → ∃ ys, ys.length = j ∧ G.ok ys H')
  go : ∃ gs, s.gens[g]? = some gs ∧ (((j : Nat) : Int) < n → ∀ t, Nap (zC N) s t → gs.Goes (model P w) A4 (ZEnd P w outer H1 sc (zC N) a g (fun _ _ => False) fun _ _ _ => False) (ZItem P w outer H1 sc (zC N) a g G) (sizeLine - j) (.send .none) (t.setGen g .running))
theorem pe_lzN {k : Nat} {er e : Expr} {tz : TZen} {n : Nat} {p p2 pos pos2 : Pos} (hr0 : PRn X er n) (h : PZen X k e tz) (hn : 0 < n) (hn2 : n ≤ 1000) (hsm : Builtin.Range.small 0 n 1 = true) (hsz : Builtin.Range.rangeSize 0 n 1 = n)
    (hr : Room (k + 3) X.A) (hgl : Gl X "list") (hml : X.mg "list" = none) (hgz : Gl X "zip") (hmz : X.mg "zip" = none)
    (he1 : starEach [.Call (.Name "zip" p2) [er, e] [] pos2] X.env = (false, eval (.Call (.Name "zip" p2) [er, e] [] pos2) X.env) :: starEach [] X.env := by rfl)
    (he2 : starEach [er, e] X.env = (false, eval er X.env) :: starEach [e] X.env := by rfl) (he3 : starEach [e] X.env = (false, eval e X.env) :: starEach [] X.env := by rfl) (hpl : (backTo pos2 (starEach [e] X.env)).any (·.1) = false := by rfl) :
    PE X (.Call (.Name "list" p) [.Call (.Name "zip" p2) [er, e] [] pos2] [] pos) (fun σ H Q => tz σ H ⟨fun ys H1 => ys.length = n → ∀ q, H1 q = none → Q (.ref q) H1, n⟩) := by
  refine ⟨fun pins s σ H Q I hq => ?_⟩
  refine lz_prefix I hr0 hsm hsz hgl hml hgz hmz (fun r s1 I1 hrr => thn (h.run _ s1 σ H _ I1 hq) fun u s2 hm => ?_) he1 he2 he3 hpl
  obtain ⟨H1, sc, I2, ⟨a, g, c, rfl, m1, m2, mg, mgs, mos, mb, ml, mk, wake⟩⟩ := hm
  refine ⟨a, g, rfl, mg, fun o eo => mk _ _ (I2.pin (r, o) (List.mem_append_right _ (List.mem_append_right _ (mem_pinsAt (List.mem_singleton.mpr rfl) eo)))).1, fun h3 R z1 z2 z3 z4 z5 z6 z7 z8 => ?_⟩
  have ssz : sc.heap.objs.size ≤ s2.heap.objs.size := Nat.le_trans m1 (Nat.le_of_lt m2)
  generalize hN : s2.heap.objs.size = N at *
  have hCs : ∀ b ∈ zC N, N ≤ b := fun b hb => by
    rcases mem_zC.mp hb with q | q | q | q | q
    · rw [q]; exact Nat.le_add_right _ _
    · rw [q]; exact Nat.le_add_right _ _
    · rw [q]; exact Nat.le_refl _
    · rw [q]; exact Nat.le_add_right _ _
    · rw [q]; exact Nat.le_add_right _ _
  have hCsc : ∀ b ∈ zC N, sc.heap.objs.size ≤ b := fun b hb => Nat.le_trans ssz (hCs b hb)
  have hCf : ∀ b ∈ zC N, b ∉ frs X.stack := fun b hb hm => by
    rcases List.mem_cons.mp (I2.stkSub _ hm) with z | z
    · exact absurd (Nat.lt_of_lt_of_le I2.lt (hCsc b hb)) (by rw [z]; exact Nat.lt_irrefl _)
    · exact I2.nofs (hCsc b hb) z
  have aN : a < N := m2
  have aC : a ∉ zC N := fun hb => absurd (Nat.lt_of_lt_of_le aN (hCs a hb)) (Nat.lt_irrefl _)
  have cs : cStatics ∉ zC N := fun hb => by
    have : cStatics < s2.heap.objs.size := let ⟨_, q, _⟩ := ml; q.lt
    rw [hN] at this
    exact absurd (Nat.lt_of_lt_of_le this (hCs _ hb)) (Nat.lt_irrefl _)
  have noLim : ∀ (h' : Heap) {H' : Hp}, Un (frs X.stack) [] H1 H' sc.heap h' → h'.NoLimit := fun h' {H'} un => I2.ok.mod.nolimit.keeps fun b o eb => un.keep b o (I2.bs b o eb).1 (I2.bs b o eb).2 (fun hm => by
    rcases List.mem_cons.mp (I2.stkSub b hm) with z | z
    · have q1 := Heap.lt_size eb
      have q2 := Nat.le_trans I2.ok.bsz I2.ok.above
      rw [z] at q1
      exact absurd (Nat.lt_of_lt_of_le q1 q2) (Nat.lt_irrefl _)
    · exact I2.ok.nofr eb z) (fun hb => (nomatch hb))
  suffices loop : ∀ (m j : Nat) (s : Shared), j + m = n → ZL X.prog X.w X.A.in1.in1.in1.in1 X.stack H1 sc ⟨fun ys H1 => ys.length = n → ∀ q, H1 q = none → Q (.ref q) H1, n⟩ N a g n j s →
      codeAny (model X.prog X.w) X.A.in1 (.builtin "list.extend.loop" ⟨[.ref (N + 4), .ref (N + 3), .none], []⟩) R s by
    have hsd : ∀ b ∈ zC N, ∃ o, h3.get? b = some o ∧ ∀ v, o.data ≠ .cell v := fun b hb => by
      obtain ⟨c5, z5⟩ := z5
      rcases mem_zC.mp hb with q | q | q | q | q
      · rw [q]; exact ⟨_, z1, fun v q => by cases q⟩
      · rw [q]; exact ⟨_, z3, fun v q => by cases q⟩
      · rw [q]; exact ⟨_, z4, fun v q => by cases q⟩
      · rw [q]; exact ⟨_, z5, fun v q => by cases q⟩
      · rw [q]; exact ⟨_, z2, fun v q => by cases q⟩
    obtain ⟨c5, z5⟩ := z5
    have kp : ∀ b o, sc.heap.get? b = some o → h3.get? b = some o := fun b o q => z6 b o (mk b o q)
    refine loop n 0 _ (Nat.zero_add _) ⟨⟨_, _, z1, .inl rfl⟩, z2, ⟨_, _, z3⟩, by simpa using z4, ⟨_, _, z5, rfl⟩, mg.keeps z6, ml.keeps z6, mos, mb, ⟨H1, Un.kept kp, I2.hok.kept kp, fun b hb => I2.hok.fresh (hCsc b hb), fun q => absurd q (Nat.lt_irrefl _)⟩, _, mgs, fun _ t ht => ⟨rfl, ?_⟩⟩
    refine wake X.A.in1.in1.in1.in1 (zC N) (t.setGen g .running) ⟨hr.hd, by have := hr.dp; show X.A.depth + 3 * k + 5 < _; omega, by have := hr.un; show X.A.units + 1 + 1 + 1 + 1 + 16 * k + 200 < _; omega⟩ I2.ok.frames
      hCs (fun b o q => ht.keep b o (fun hb => ?_) (z6 b o q)) ht.own (ht.os.trans mos) (allBare_setGen ht.bare rfl)
    have lt := Heap.lt_size q
    rw [hN] at lt
    exact absurd (Nat.lt_of_lt_of_le lt (hCs b hb)) (Nat.lt_irrefl _)
  intro m
  induction m with
  | zero =>
    intro j s hj z
    have ej : j = n := by omega
    subst ej
    obtain ⟨⟨f0, b, hz, hf⟩, hTI, ⟨a1, a2, hTO⟩, hrg, _, _, _, hos, hb, ⟨H', hu, hok, hL, hG⟩, _⟩ := z
    obtain ⟨ys, hy, hG⟩ := hG hn
    have hle : ((j : Nat) : Int) - ((j : Nat) : Int) ≤ 0 := by omega
    have fin : ∀ h' : Heap, (∀ c o, c ≠ N + 3 → c ≠ N + 2 → c ≠ N → s.heap.get? c = some o → h'.get? c = some o) → R (.ok (.ret .none)) { s with heap := h' } := fun h' hk0 => by
      have hk : ∀ b o, b ∉ zC N → s.heap.get? b = some o → h'.get? b = some o := fun b o hb q =>
        hk0 b o (fun e => hb (mem_zC.mpr (.inl e))) (fun e => hb (mem_zC.mpr (.inr (.inl e)))) (fun e => hb (mem_zC.mpr (.inr (.inr (.inl e))))) q
      exact z7 _ ⟨.ref _, H', I2.unpinned.call' (ch := []) hos (un_but hu hCsc hCf hk) (hok_but hok hL hk) hb fun b z => (nomatch z), rfl, hG hy _ (hL _ (mem_zC.mpr (.inr (.inr (.inr (.inl rfl))))))⟩
    refine extend_turn ⟨_, hz, rfl⟩ ?_
    by_cases hf2 : ZFree s.heap f0
    · exact zip_end0 hr.hd (zap _) hz hf2 hTI hTO hrg hle fun h' b hk ho => .inl ⟨b, rfl, ho, fin h' hk⟩
    · rcases hf with rfl | ⟨T, rfl⟩
      · exact absurd (.inl rfl) hf2
      · cases eT : s.heap.get? T with
        | none => exact absurd (.inr ⟨T, rfl, eT⟩) hf2
        | some oT => exact zip_endN hr.hd (zap _) hz eT hTI hrg hle fun h' b hk ho => .inl ⟨b, rfl, ho, fin h' fun c o q1 _ q3 q => hk c o q1 q3 q⟩
  | succ m ih =>
    intro j s hj z
    obtain ⟨⟨f0, bz, hz, hf⟩, hTI, ⟨a1, a2, hTO⟩, hrg, ⟨acc, ca, hL, hacc⟩, hgen, hlim, hos, hb, _, ⟨gs, hgs, hgo⟩⟩ := z
    have hlt : (0 : Int) < (n : Int) - (j : Nat) := by omega
    obtain ⟨m', hm'⟩ : ∃ m', sizeLine - j = m' + 1 := ⟨sizeLine - j - 1, by rw [sizeLine_eq]; omega⟩
    have hm2 : sizeLine - (j + 1) = m' := by omega
    have nz : ∀ {x y : Nat}, x ≠ y → (N + x : Nat) ≠ N + y := fun h q => h (by omega)
    -- the step of the generator, and what follows it
    have step : ∀ (h1 : Heap) (tk : Nat) (t : Tok) (Q2 : Option Value → Shared → Prop) (E2 : Value → Shared → Prop), (∃ f b, IsZipB h1 (N + 3) (N + 1) (N + 2) f b) → (∃ a1 a2, IsTupOf2 h1 (N + 2) a1 a2) → IsRangeIter h1 N ((j : Nat) + 1) ((n : Int) - (j : Nat) - 1) 1 →
        (∀ c o, c ≠ N + 3 → c ≠ N + 2 → c ≠ N → s.heap.get? c = some o → h1.get? c = some o) →
        (∀ (v : Value) (s₁ : Shared) (gs' : GenState), (∀ b ∈ zC N, ∀ o, h1.get? b = some o → s₁.heap.get? b = some o) → (∀ h' : Heap, (∃ f b, IsZipB h' (N + 3) (N + 1) (N + 2) f b ∧ (f = .none ∨ ∃ T : Addr, f = rawInt T)) → (∃ a1 a2, IsTupOf2 h' (N + 2) a1 a2) → (∀ c o, c ≠ N + 3 → c ≠ N + 2 → s₁.heap.get? c = some o → h'.get? c = some o) →
          ∃ acc c, h'.get? (N + 4) = some (lstObj acc c) ∧ acc.size < sizeLine ∧ ∀ u, codeAny (model X.prog X.w) X.A.in1 (.builtin "list.extend.loop" ⟨[.ref (N + 4), .ref (N + 3), .none], []⟩) R { s₁.setGen g gs' with heap := h'.update (N + 4) (Obj.mapSeq (·.push u)) }) → Q2 (some v) (s₁.setGen g gs')) →
        wpAny (model X.prog X.w) X.A.in1.in1.in1 (callSpecial? (.ref a) "__next__") Q2 E2 { s with heap := h1, toks := tk } := fun h1 tk t Q2 E2 y1 y2 y3 y5 hQ2 => by
      have kC : ∀ b o, b ∉ zC N → s.heap.get? b = some o → h1.get? b = some o := fun b o hb q =>
        y5 b o (fun e => hb (mem_zC.mpr (.inl e))) (fun e => hb (mem_zC.mpr (.inr (.inl e)))) (fun e => hb (mem_zC.mpr (.inr (.inr (.inl e))))) q
      have hL1 : h1.get? (N + 4) = some (lstObj acc ca) := y5 _ _ (nz (by decide)) (nz (by decide)) (nz (x := 4) (y := 0) (by decide)) hL
      have hTI1 : IsTupOf2 h1 (N + 1) (.ref N) (.ref a) := y5 _ _ (nz (by decide)) (nz (by decide)) (nz (x := 1) (y := 0) (by decide)) hTI
      have nap : Nap (zC N) s { s with heap := h1, toks := tk } := ⟨rfl, hb, kC, fun b hb => by
        obtain ⟨f, bb, y1⟩ := y1
        obtain ⟨b1, b2, y2⟩ := y2
        rcases mem_zC.mp hb with q | q | q | q | q
        · rw [q]; exact ⟨_, y1, fun v q => by cases q⟩
        · rw [q]; exact ⟨_, y2, fun v q => by cases q⟩
        · rw [q]; exact ⟨_, y3, fun v q => by cases q⟩
        · rw [q]; exact ⟨_, hL1, fun v q => by cases q⟩
        · rw [q]; exact ⟨_, hTI1, fun v q => by cases q⟩⟩
      have lim1 : h1.NoLimit := let ⟨mc, q1, q2⟩ := hlim; ⟨mc, q1.at' fun o e => kC _ o cs e, q2⟩
      have gen1 : h1.IsGen a g := let ⟨o, nm, qn, e, q⟩ := hgen; ⟨o, nm, qn, kC _ _ aC e, q⟩
      have hgl : g < s.gens.size := (Array.getElem?_eq_some_iff.mp hgs).1
      refine wpAny_gsz (n := g + 1) hgl (gen_special (n := sizeLine - j) lim1 (by have := hr.dp; show X.A.depth < _; omega) gen1 hgs (hgo (by omega) _ nap) (fun r s₁ hR => ?_) fun v s₁ gs' hbare hv hsz => ?_)
      · rcases hR with ⟨_, _, _, _, _, _, _, _, _, hF⟩ | ⟨_, _, hc, _⟩
        · exact hF.elim
        · obtain ⟨_, _, _, _, _, _, _, _, _, _, _, _, hF⟩ := hc
          exact hF.elim
      · rw [hm'] at hv
        obtain ⟨ys, x, H', hlen, rv, hG, os1, bare1, gen2, un1, hok1, still, kap⟩ := hv
        have ylen : ys.length = j := by omega
        have noC : ∀ b ∈ zC N, H' b = none := fun b hb => (still b hb).1
        have keepC : ∀ b ∈ zC N, ∀ o, h1.get? b = some o → s₁.heap.get? b = some o := fun b hb o e => (still b hb).2 o e
        refine hQ2 v s₁ gs' keepC fun h' zz zt hk => ?_
        have hk2 : ∀ b o, b ∉ zC N → s₁.heap.get? b = some o → h'.get? b = some o := fun b o hb q => hk b o (fun e => hb (mem_zC.mpr (.inl e))) (fun e => hb (mem_zC.mpr (.inr (.inl e)))) q
        have hL2 : h'.get? (N + 4) = some (lstObj acc ca) := hk _ _ (nz (by decide)) (nz (by decide)) (keepC _ (mem_zC.mpr (.inr (.inr (.inr (.inl rfl))))) _ hL1)
        have hR2 : IsRangeIter h' N ((j : Nat) + 1) ((n : Int) - (j : Nat) - 1) 1 := hk _ _ (nz (x := 0) (y := 3) (by decide)) (nz (x := 0) (y := 2) (by decide)) (keepC _ (mem_zC.mpr (.inr (.inr (.inl rfl)))) _ y3)
        refine ⟨acc, ca, hL2, by rw [sizeLine_eq]; omega, fun u => ?_⟩
        have up : ∀ b o, b ≠ N + 4 → h'.get? b = some o → (h'.update (N + 4) (Obj.mapSeq (·.push u))).get? b = some o := fun b o hb e => (Heap.get?_update_other _ _ (Ne.symm hb)).trans e
        have hk3 : ∀ b o, b ∉ zC N → s₁.heap.get? b = some o → (h'.update (N + 4) (Obj.mapSeq (·.push u))).get? b = some o := fun b o hb e =>
          up b o (fun q => hb (mem_zC.mpr (.inr (.inr (.inr (.inl q)))))) (hk2 b o hb e)
        have gsz : g < s₁.gens.size := by
          have q : (s₁.setGen g gs').gens.size = s₁.gens.size := setGen_size _ _ _
          have q2 : g + 1 ≤ (s₁.setGen g gs').gens.size := hsz
          omega
        refine ih (j + 1) _ (by omega) ⟨?_, ?_, ?_, ?_, ?_, ?_, ?_, os1, ?_, ?_, ?_⟩
        · obtain ⟨f, bb, q1, q2⟩ := zz
          exact ⟨f, bb, up _ _ (nz (by decide)) q1, q2⟩
        · exact up _ _ (nz (by decide)) (hk _ _ (nz (by decide)) (nz (by decide)) (keepC _ (mem_zC.mpr (.inr (.inr (.inr (.inr rfl))))) _ hTI1))
        · obtain ⟨b1, b2, q⟩ := zt
          exact ⟨b1, b2, up _ _ (nz (by decide)) q⟩
        · have e1 : (((j + 1 : Nat) : Int)) = (j : Nat) + 1 := by omega
          have e2 : (n : Int) - (((j : Nat) : Int) + 1) = (n : Int) - (j : Nat) - 1 := by omega
          rw [e1, e2]
          exact up _ _ (nz (x := 0) (y := 4) (by decide)) hR2
        · exact ⟨acc.push u, _, Heap.get?_update_self _ hL2 rfl, by rw [Array.size_push, hacc]⟩
        · exact let ⟨o, nm, qn, e, q⟩ := gen2; ⟨o, nm, qn, hk3 _ _ aC e, q⟩
        · exact noLim _ (un_but un1 hCsc hCf hk3)
        · exact allBare_setGen bare1 hbare
        · exact ⟨H', un_but un1 hCsc hCf hk3, hok_but hok1 noC hk3, noC, fun _ => ⟨ys ++ [x], by rw [List.length_append, ylen]; rfl, hG⟩⟩
        · refine ⟨gs', setGen_at gsz, fun lt t ht => ?_⟩
          rw [hm2]
          exact kap (by show ys.length + 1 < n; omega) (t.setGen g .running) ⟨ht.os, allBare_setGen ht.bare rfl, fun b o hb e => ht.keep b o hb (hk3 b o hb e), ht.own⟩
    have zin : N + 3 ∈ zC N := mem_zC.mpr (.inl rfl)
    have tin : N + 2 ∈ zC N := mem_zC.mpr (.inr (.inl rfl))
    refine extend_turn ⟨_, hz, rfl⟩ ?_
    by_cases hf2 : ZFree s.heap f0
    · refine zip_turn0 (zap _) hz hf2 hTI hTO hrg hlt fun h1 tk t y1 y2 y3 y4 y5 => step h1 tk t _ _ ⟨_, _, y1⟩ ⟨_, _, y2⟩ y3 y5 fun v s₁ gs' keepC fin => ⟨v, rfl, keepC _ zin _ y1, keepC _ tin _ y2, fun h' q1 q2 q3 q4 q5 => ?_⟩
      obtain ⟨acc, c, e1, e2, e3⟩ := fin h' ⟨_, _, q1, .inr ⟨_, rfl⟩⟩ ⟨_, _, q2⟩ q5
      exact ⟨acc, c, e1, e2, e3 _⟩
    · rcases hf with rfl | ⟨T, rfl⟩
      · exact absurd (.inl rfl) hf2
      · cases eT : s.heap.get? T with
        | none => exact absurd (.inr ⟨T, rfl, eT⟩) hf2
        | some oT =>
          refine zip_turnN (zap _) hz eT hTI hrg hlt fun h1 tk t y1 y3 y4 y5 => ?_
          have y2 : IsTupOf2 h1 (N + 2) a1 a2 := y5 _ _ (nz (by decide)) (nz (x := 2) (y := 0) (by decide)) hTO
          refine step h1 tk t _ _ ⟨_, _, y1⟩ ⟨_, _, y2⟩ y3 (fun c o q1 _ q3 q => y5 c o q1 q3 q) fun v s₁ gs' keepC fin => ⟨v, rfl, fun h' q3 q4 q5 => ?_⟩
          obtain ⟨acc, c, e1, e2, e3⟩ := fin h' ⟨_, _, q5 _ _ (keepC _ zin _ y1), .inr ⟨_, rfl⟩⟩ ⟨_, _, q5 _ _ (keepC _ tin _ y2)⟩ (fun c o _ _ q => q5 c o q)
          exact ⟨acc, c, e1, e2, e3 _⟩
end
end FM
-- FmRevS
set_option maxRecDepth 100000
set_option maxHeartbeats 1000000
/-! a text's [::-1] -/
namespace FM
open PySem PySem.Spec PyProof.Rows L2
/-- the text backwards -/
def backS (z : Str) : Str := ⟨((Builtin.Str.strSliceIndices none none (-1) z.length).filterMap (z.cps[·]?)).toArray⟩
def tBackS (te : TE) : TE := fun σ H Q => te σ H fun x H1 => ∃ z : Str, x = .str z ∧ (backS z).length ≤ sizeLine ∧ Q (.str (backS z)) H1
section
variable {X : Cx}
theorem pe_backS {e : Expr} {te : TE} {k : Nat} {p1 p2 p3 pos : Pos} (he : PE X e te) : PE X (.Subscript e (.Slice none none (some (.UnaryOp .USub (.Constant (.int 1) k p1) p2)) p3) pos) (tBackS te) := by
  refine ⟨fun pins s σ H Q I h => ?_⟩
  refine Subscript_ (thn (he.run pins s σ H _ I h) fun v s1 ⟨x, H1, I1, r1, q1⟩ => ?_)
  obtain ⟨z, rfl, hz, q⟩ := q1
  obtain ⟨t, rfl⟩ := r1
  have hst : PO X (some (.UnaryOp .USub (.Constant (.int 1) k p1) p2)) (tPart (tUn (rU fun i => .int (-i)) (tC (.int 1)))) := po_some (pe_un un_neg pe_int)
  refine wpAny_Slice (thn (po_none.run pins s1 σ H1 (fun o H2 => o = none ∧ H2 = H1) I1 ⟨rfl, rfl⟩) fun vl s2 ⟨l, H2, I2, pl, el, e2⟩ => ?_)
  subst el e2
  refine thn (po_none.run pins s2 σ H2 (fun o H3 => o = none ∧ H3 = H2) I2 ⟨rfl, rfl⟩) fun vu s3 ⟨u, H3, I3, pu, eu, e3⟩ => ?_
  subst eu e3
  refine thn (hst.run pins s3 σ H3 (fun o H4 => o = some (-1) ∧ H4 = H3) I3 ⟨1, rfl, -1, rfl, rfl, rfl⟩) fun vs s4 ⟨o, H4, I4, ps, eo, e4⟩ => ?_
  subst eo e4
  have I5 : Inv X pins σ H4 { s4 with heap := s4.heap.push { cls := .type "slice", data := .fields #[vl, vu, vs] } } := I4.kept (t' := s4.toks) fun b ob q => Heap.get?_push_of_some _ q
  obtain ⟨l, e1, f1⟩ := IsPart.raw pl
  obtain ⟨u, e2, f2⟩ := IsPart.raw pu
  obtain ⟨st, e3, f3⟩ := IsPart.raw ps
  show wpAny (model X.prog X.w) X.A (subscriptTail e (.Slice none none (some (.UnaryOp .USub (.Constant (.int 1) k p1) p2)) p3) (.str z t) (.ref s4.heap.objs.size)) (EP X pins σ Q) X.xe { s4 with heap := s4.heap.push { cls := .type "slice", data := .fields #[vl, vu, vs] } }
  refine tail_any (ops := [.str z t, .ref s4.heap.objs.size]) (typeIs_str _ _ _) F.slot_str_getitem.lookup ?_ (by with_unfolding_all rfl)
  subst e1 e2 e3
  cases l with
  | some l => cases f1
  | none =>
  cases u with
  | some u => cases f2
  | none =>
  obtain ⟨tk, rfl⟩ : ∃ tk, st = some (-1, tk) := by
    cases st with
    | none => cases f3
    | some p =>
      obtain ⟨i, tk⟩ := p
      have e : i = -1 := by simpa using f3
      exact ⟨tk, by rw [e]⟩
  refine wpAny_getItem_str_slice (l := none) (u := none) (st := some (-1, tk)) ⟨_, Heap.get?_push_size _ rfl, rfl, rfl⟩ rfl ?_
  exact ⟨hz, .str _, H4, I5.tok _, ⟨_, rfl⟩, q⟩
end
end FM
-- FmBackT
set_option maxRecDepth 100000
set_option maxHeartbeats 1000000
/-! a tuple's [::-1] -/
namespace FM
open PySem PySem.Spec PyProof.Rows L2
theorem applied_back {pr : Program} {wd : World} {ar : Around} {Er : Value → Shared → Prop} {st : Shared} {sl : Addr} {tk : Tok} {n : Nat} {Qr : Int × Int × Nat → Shared → Prop}
    (isS : st.heap.IsSliceOf sl .none .none (.int (-1) tk)) (q : Qr ((n : Int) - 1, -1, n) st) : wpAny (model pr wd) ar (Builtin.Slice.sliceApplied (.ref sl) (pure (n : Int))) Qr Er st := by
  have count : Builtin.Slice.slicePlaces ((n : Int) - 1) (-1) (-1) = n := by
    unfold Builtin.Slice.slicePlaces
    have one : (- (-1) : Int) = 1 := rfl
    rw [if_neg (by decide : ¬ ((-1 : Int) > 0)), one]
    simp only [Int.ediv_one]
    split <;> omega
  obtain ⟨osl, there, _, flds⟩ := isS
  unfold Builtin.Slice.sliceApplied Builtin.Slice.sliceFields
  refine wpAny_bind (wpAny_bind (wpAny_field there flds (x := .none) rfl (wpAny_bind ?_)))
  refine wpAny_field there flds (x := .none) rfl (wpAny_bind ?_)
  refine wpAny_field there flds (x := .int (-1) tk) rfl (wpAny_pure (wpAny_bind (slicePart_int ?_)))
  show wpAny _ _ (if ((-1 : Int) == 0) = true then _ else _) _ _ st
  rw [if_neg (by decide)]
  refine wpAny_bind (slicePart_none (wpAny_bind (slicePart_none (wpAny_bind (wpAny_pure ?_)))))
  show wpAny _ _ (pure ((n : Int) - 1, (-1 : Int), Builtin.Slice.slicePlaces ((n : Int) - 1) (-1) (-1))) _ _ st
  rw [count]
  exact wpAny_pure q
theorem pick_back (xs : Array Value) : ((List.range xs.size).filterMap fun (m : Nat) => xs[(((xs.size : Int) - 1) + (m : Int) * (-1)).toNat]?) = xs.toList.reverse := by
  have key : ∀ n, n = xs.size → (List.range n).filterMap (fun (m : Nat) => xs[(((xs.size : Int) - 1) + (m : Int) * (-1)).toNat]?) = (List.range n).map fun m => xs.toList.reverse.getD m .none := by
    intro n hn
    have : ∀ l : List Nat, (∀ m ∈ l, m < xs.size) → l.filterMap (fun (m : Nat) => xs[(((xs.size : Int) - 1) + (m : Int) * (-1)).toNat]?) = l.map fun m => xs.toList.reverse.getD m .none := by
      intro l
      induction l with
      | nil => intro _; rfl
      | cons a r ih =>
        intro h
        have ha := h a List.mem_cons_self
        have e1 : (((xs.size : Int) - 1) + (a : Int) * (-1)).toNat = xs.size - 1 - a := by omega
        have lt : xs.size - 1 - a < xs.size := by omega
        have e2 : xs[(((xs.size : Int) - 1) + (a : Int) * (-1)).toNat]? = some (xs.toList.reverse.getD a .none) := by
          rw [e1, Array.getElem?_eq_getElem lt, List.getD_eq_getElem?_getD, List.getElem?_reverse (by simpa using ha)]
          simp [lt]
        rw [List.filterMap_cons, e2, List.map_cons, ih fun m hm => h m (List.mem_cons_of_mem _ hm)]
    exact this _ fun m hm => by rw [← hn]; exact List.mem_range.mp hm
  rw [key _ rfl]
  refine List.ext_getElem (by simp) fun j h1 h2 => ?_
  have hj : j < xs.toList.reverse.length := h2
  rw [List.getElem_map, List.getElem_range, List.getD_eq_getElem?_getD, List.getElem?_eq_getElem hj]
  rfl
theorem getItem_tuple_back {pr : Program} {wd : World} {ar : Around} {Er Qr : Value → Shared → Prop} {st : Shared} {t sl : Addr} {us : Array Value} {tk : Tok} (isT : IsTup st.heap t us) (isS : st.heap.IsSliceOf sl .none .none (.int (-1) tk))
    (q : Qr (.ref st.heap.objs.size) { st with heap := st.heap.push { cls := .type "tuple", data := .seq us.toList.reverse.toArray } }) (most : us.size ≤ sizeLine) : wpAny (model pr wd) ar (getItem (.ref t) (.ref sl)) Qr Er st := by
  have fits : sizeOk (.seq us.toList.reverse.toArray) := by
    unfold sizeOk
    simpa using most
  have sliceCls : st.TypeIs (.ref sl) "slice" := let ⟨o, z, c, _⟩ := isS; ⟨o, z, c⟩
  have notWhole : (((us.size : Int) - 1 == 0) && (-1 : Int) == 1 && us.size == us.size) = false := by
    rw [show ((-1 : Int) == 1) = false from rfl, Bool.and_false, Bool.false_and]
  unfold getItem
  try with_reducible refine wpAny_holding ?_
  try refine wpAny_bind (wpAny_pure ?_)
  refine wpAny_bind (wpAny_sequenceKey isT.typeIs (by decide) ?_)
  refine wpAny_bind (wpAny_callSpecial?_slot (name := Str.ofString "__getitem__") isT.typeIs PyProof.Rows.slot_tuple_getitem ?_)
  refine wpAny_call_entry PyProof.Rows.slot_tuple_getitem isT.typeIs entry_tuple_getitem ?_ (args_tuple_getitem _ _)
  show wpAny _ _ (Builtin.Tuple.tupleItemsOf (.ref t) >>= _) _ _ st
  refine wpAny_bind (tupleItemsOf_ isT (wpAny_bind (wpAny_typeOf sliceCls ?_)))
  rw [if_pos (by decide)]
  refine wpAny_bind (applied_back isS ?_)
  show wpAny _ _ (if (((us.size : Int) - 1 == 0) && (-1 : Int) == 1 && us.size == us.size) = true then _ else _) _ _ st
  rw [notWhole, if_neg Bool.false_ne_true, pick_back]
  exact wpAny_bind (m := Builtin.Tuple.tupleExact _) (wpAny_newObj_type (wpAny_pure ⟨_, rfl, wpAny_pure q⟩) fits)
theorem Vals.rev {xs : List V} {us : List Value} (r : Vals xs us) : Vals xs.reverse us.reverse := by
  induction r with
  | nil => exact .nil
  | cons a _ ih =>
    rw [List.reverse_cons, List.reverse_cons]
    exact ih.append (.cons a .nil)
def tBackT (K : PySem.W.Frag) (te : TE) : TE := fun σ H Q => te σ H fun x H1 => ∃ a xs, x = .ref a ∧ SqT K H1 a xs ∧ ∀ p, H1 p = none → Q (.ref p) (upd H1 p (.tup xs.reverse))
theorem pe_backT {X : Cx} {e : Expr} {te : TE} {k : Nat} {p1 p2 p3 pos : Pos} (he : PE X e te) : PE X (.Subscript e (.Slice none none (some (.UnaryOp .USub (.Constant (.int 1) k p1) p2)) p3) pos) (tBackT X.K te) := by
  constructor
  intro pins st σ H Q I go
  have less : PO X (some (.UnaryOp .USub (.Constant (.int 1) k p1) p2)) (tPart (tUn (rU fun i => .int (-i)) (tC (.int 1)))) := po_some (pe_un un_neg pe_int)
  refine Subscript_ (thn (he.run pins st σ H _ I go) ?_)
  rintro v0 s1 ⟨x, H1, I1, rv0, a, xs, rfl, hx, q⟩
  cases rv0
  have part1 := po_none.run pins s1 σ H1 (fun o Hn => o = none ∧ Hn = H1) I1 ⟨rfl, rfl⟩
  refine wpAny_Slice (thn part1 ?_)
  rintro vl s2 ⟨_, _, I2, pl, rfl, rfl⟩
  have part2 := po_none.run pins s2 σ _ (fun o Hn => o = none ∧ Hn = _) I2 ⟨rfl, rfl⟩
  refine thn part2 ?_
  rintro vu s3 ⟨_, _, I3, pu, rfl, rfl⟩
  have part3 := less.run pins s3 σ _ (fun o Hn => o = some (-1) ∧ Hn = _) I3 ⟨1, rfl, -1, rfl, rfl, rfl⟩
  refine thn part3 ?_
  rintro vs s4 ⟨_, _, I4, ps, rfl, rfl⟩
  cases pl
  cases pu
  obtain ⟨tk, rfl⟩ : ∃ tk, vs = .int (-1) tk := by
    cases ps
    exact ⟨_, rfl⟩
  have I5 := I4.kept (t' := s4.toks) (h' := s4.heap.push { cls := .type "slice", data := .fields #[.none, .none, .int (-1) tk] }) fun _ _ z => Heap.get?_push_of_some _ z
  obtain ⟨its, rel, isT, most⟩ := I5.tuple hx
  have ln := rel.length
  have szo : its.toArray.size ≤ sizeLine := by
    rw [List.size_toArray]
    omega
  show wpAny (model X.prog X.w) X.A (subscriptTail e (.Slice none none (some (.UnaryOp .USub (.Constant (.int 1) k p1) p2)) p3) (.ref a) (.ref s4.heap.objs.size)) (EP X pins σ Q) X.xe { s4 with heap := s4.heap.push { cls := .type "slice", data := .fields #[.none, .none, .int (-1) tk] } }
  refine tail_any (ops := [.ref a, .ref s4.heap.objs.size]) isT.typeIs PyProof.Rows.slot_tuple_getitem.lookup (getItem_tuple_back isT (tk := tk) ⟨_, Heap.get?_push_size _ rfl, rfl, rfl⟩ ?_ szo) (by with_unfolding_all rfl)
  have turned := I5.laid (t' := s4.toks) (o := .tup xs.reverse) (fun _ _ z => Heap.get?_push_of_some _ z) (Nat.le_refl _) ⟨by rw [List.length_reverse]; exact most, _, Vals.rev rel, IsTup.new _ _⟩
  exact ⟨.ref _, _, turned, rfl, q _ (I5.hok.fresh (Nat.le_refl _))⟩
end FM
-- FmSetStr
set_option maxRecDepth 100000
set_option maxHeartbeats 1000000
/-! Sets of texts that can be walked: made of a text or of a tuple of texts, sorted. -/
namespace FM
open PySem PySem.Spec PyProof.Rows L2
def sKey (e : Int × Value) : Str := match e.2 with | .str k _ => k | _ => Str.empty
def GoodT (w : World) (e : Int × Value) : Prop := ∃ k tk, e.2 = Value.str k tk ∧ e.1 = hashStr w k
/-- the set of texts at a: S its members; its table rises and can be walked -/
def SetRS (w : World) (h : Heap) (a : Addr) (S : Str → Bool) (n : Nat) : Prop :=
  ∃ o es ep t, h.get? a = some o ∧ o.ExactSet ∧ o.data = .set es ep t ∧ (∀ e ∈ es.toList, GoodT w e) ∧ (es.toList.map sKey).Nodup ∧ (∀ k, S k = true ↔ k ∈ es.toList.map sKey) ∧
    es.size < scanBound ∧ t.fits es.size = true ∧ es.size = n ∧ Ris t.place.toList ∧ (w.params.followText "set-order" = true ∨ t.led = true)
section
variable {P : Program} {w : World} {h h' : Heap} {a : Addr} {S : Str → Bool} {n : Nat}
theorem SetRS.at (R : SetRS w h a S n) (k : ∀ o, h.get? a = some o → h'.get? a = some o) : SetRS w h' a S n := by
  obtain ⟨o, es, ep, t, ho, r⟩ := R
  exact ⟨o, es, ep, t, k o ho, r⟩
theorem SetRS.congr {S' : Str → Bool} (R : SetRS w h a S n) (e : ∀ k, S' k = S k) : SetRS w h a S' n := by
  have : S' = S := funext e
  rw [this]
  exact R
theorem strIs (k : Str) (u : Tok) : (PySem.strKind P w).is k (.str k u) = true := by
  show Value.isStrOf k (.str k u) = true
  simp [Value.isStrOf]
theorem goodT_elems {l : List (Int × Value)} (g : ∀ e ∈ l, GoodT w e) : ElemsOf (PySem.strKind P w) l := fun e he => by
  obtain ⟨k, tk, h1, h2⟩ := g e he
  exact ⟨⟨k, by rw [h1]; exact strIs k tk, h2⟩, by rw [h1]; rfl⟩
theorem goodT_is {e : Int × Value} (g : GoodT w e) (k : Str) : (PySem.strKind P w).is k e.2 = true ↔ sKey e = k := by
  obtain ⟨k0, tk, h1, _⟩ := g
  constructor
  · intro q
    obtain ⟨t, q2⟩ := Value.isStrOf_shape q
    unfold sKey
    rw [q2]
  · intro q
    have q2 : k0 = k := by
      unfold sKey at q
      rw [h1] at q
      exact q
    rw [h1, q2]
    exact strIs k tk
theorem goodT_mem {l : List (Int × Value)} (g : ∀ e ∈ l, GoodT w e) (k : Str) : k ∈ l.map sKey ↔ ∃ e ∈ l, (PySem.strKind P w).is k e.2 = true := by
  rw [List.mem_map]
  exact ⟨fun ⟨e, he, q⟩ => ⟨e, he, (goodT_is (g e he) k).2 q⟩, fun ⟨e, he, q⟩ => ⟨e, he, (goodT_is (g e he) k).1 q⟩⟩
end
section
variable {P : Program} {w : World} {A : Around} {E : Value → Shared → Prop} {s : Shared} {a : Addr} {S : Str → Bool} {n : Nat}
theorem setRS_tail {g : Bool → Sem Unit} (hg : ∀ (b : Bool) (s₁ : Shared) (Q' : Unit → Shared → Prop), Q' () s₁ → wpAny (model P w) A (g b) Q' E s₁)
    {o : Obj} {es : Array (Int × Value)} {ep : Nat} {t : SetTable} (ho : s.heap.get? a = some o) (hex : o.ExactSet) (hd : o.data = .set es ep t)
    {fs : Array (Int × Value)} {u : SetTable} {S' : Str → Bool} (gT : ∀ e ∈ fs.toList, GoodT w e) (ndT : (fs.toList.map sKey).Nodup) (mT : ∀ k, S' k = true ↔ k ∈ fs.toList.map sKey)
    (hbT : fs.size < scanBound) (hfT : u.fits fs.size = true) (hrT : Ris u.place.toList) (hlT : w.params.followText "set-order" = true ∨ u.led = true) {wasDummy : Bool} {R : Option Bool → Shared → Prop}
    (hR : ∀ h', Heap.SameBut a s.heap h' → SetRS w h' a S' fs.size → R (some true) { s with heap := h' }) :
    wpAny (model P w) A (do
        storeSet a fs u
        if (!wasDummy && u.tooFull) = true then do
            g (relayAll u fs (SetTable.grown fs.size)).2.2
            storeSet a (relayAll u fs (SetTable.grown fs.size)).1 (relayAll u fs (SetTable.grown fs.size)).2.1
            pure (some true)
          else pure (some true)) R E s := by
  refine wpAny_bind (wpAny_storeSet_of ho hd ?_ (fits_of_scanBound hbT))
  have hoT := store_at (es' := fs) (t' := u) ho hd
  have sbT := Heap.SameBut.update s.heap a (Obj.putSet fs u)
  split
  · have pm := relayAll_perm u fs (SetTable.grown fs.size)
    have hf3 := relayAll_fits u fs (SetTable.grown fs.size)
    have hr3 := relayAll_ris u fs (SetTable.grown fs.size)
    have hl3 := relayAll_led u fs (SetTable.grown fs.size)
    generalize relayAll u fs (SetTable.grown fs.size) = Z at pm hf3 hr3 hl3 ⊢
    obtain ⟨gs, t3, gave⟩ := Z
    dsimp only at pm hf3 hr3 hl3 ⊢
    have hsz : gs.size = fs.size := by rw [← Array.length_toList, pm.length_eq, Array.length_toList]
    have hb2 : gs.size < scanBound := by rw [hsz]; exact hbT
    refine wpAny_bind (hg _ _ _ ?_)
    refine wpAny_bind (wpAny_storeSet_of hoT rfl ?_ (fits_of_scanBound hb2))
    have ho2 := store_at (es' := gs) (t' := t3) hoT rfl
    refine wpAny_pure (hR _ (sbT.trans (Heap.SameBut.update _ a _)) ?_)
    exact ⟨_, gs, _, t3, ho2, hex, rfl, fun e he => gT e (pm.mem_iff.mp he), (pm.map sKey).nodup_iff.mpr ndT, fun k => (mT k).trans (pm.map sKey).mem_iff.symm, hb2, hf3, hsz, hr3,
      hlT.imp id fun z => by rw [hl3]; exact z⟩
  · exact wpAny_pure (hR _ sbT ⟨_, fs, _, u, hoT, hex, rfl, gT, ndT, mT, hbT, hfT, rfl, hrT, hlT⟩)
theorem setRS_add {k : Str} {tk : Tok} {Q : Bool → Shared → Prop} (R : SetRS w s.heap a S n) (room : n + 1 < scanBound)
    (hQ : ∀ h', Heap.SameBut a s.heap h' → SetRS w h' a (fun j => S j || decide (j = k)) (if S k = true then n else n + 1) → Q (!S k) { s with heap := h' }) :
    wpAny (model P w) A (setAddHashed a (.str k tk) ((PySem.strKind P w).hash k)) Q E s := by
  obtain ⟨o, es, ep, t, ho, hex, hd, g, nd, hm, hb, hf, hn, hr, hl⟩ := R
  have hkey : (PySem.strKind P w).is k (.str k tk) = true := strIs k tk
  have hsc : (Value.str k tk).scannable = true := rfl
  have hel : ElemsOf (PySem.strKind P w) es.toList := goodT_elems g
  unfold setAddHashed setAddHashedIn
  refine wpAny_holding (wpAny_bind (wpAny_setState_of ho hd hf ?_))
  dsimp only
  rw [byScan_of hsc hb hel]
  simp only [↓reduceIte]
  unfold setAddByScan
  refine wpAny_bind ?_
  refine wpAny_bind (wpAny_rule ?_)
  refine wpAny_bind (wpAny_setScan_of hkey ho hd hf hel ?_)
  cases hfi : List.findIdx? (fun e => (PySem.strKind P w).is k e.2) es.toList with
  | some j =>
    dsimp only
    obtain ⟨hj, pj, _⟩ := List.findIdx?_eq_some_iff_getElem.mp hfi
    have hSk : S k = true := (hm k).2 ((goodT_mem (P := P) g k).2 ⟨es.toList[j], List.getElem_mem hj, pj⟩)
    refine wpAny_pure (wpAny_pure ?_)
    have q := hQ s.heap (Heap.SameBut.refl a s.heap) ⟨o, es, ep, t, ho, hex, hd, g, nd, fun i => by
      rw [Bool.or_eq_true, decide_eq_true_eq, ← hm i]
      exact ⟨fun z => z.elim id (fun e => e ▸ hSk), .inl⟩, hb, hf, by rw [if_pos hSk]; exact hn, hr, hl⟩
    rw [hSk] at q
    exact q
  | none =>
    dsimp only
    have hnk : k ∉ es.toList.map sKey := fun z => by
      obtain ⟨e, he, q⟩ := (goodT_mem (P := P) g k).1 z
      have c := List.findIdx?_eq_none_iff.mp hfi e he
      rw [q] at c
      cases c
    have hSk : S k = false := by
      cases q : S k with
      | false => rfl
      | true => exact absurd ((hm k).1 q) hnk
    have hgw : ∀ (b : Bool) {s₁ : Shared} {Q' : Unit → Shared → Prop}, Q' () s₁ → wpAny (model P w) A (match b with | true => rule "set.scan.the-table-gave-way" | false => pure ()) Q' E s₁ :=
      fun b s₁ Q' q => by cases b <;> first | exact wpAny_pure q | exact wpAny_rule q
    have pm := layNew_perm t es ((PySem.strKind P w).hash k) (.str k tk)
    have hf1 := layNew_fits t es ((PySem.strKind P w).hash k) (.str k tk)
    have hr1 := layNew_ris t es ((PySem.strKind P w).hash k) (.str k tk) hr
    have hl1 := layNew_led t es ((PySem.strKind P w).hash k) (.str k tk)
    generalize layNew t es ((PySem.strKind P w).hash k) (.str k tk) = Z at pm hf1 hr1 hl1 ⊢
    obtain ⟨fs, t1, wasDummy, gave⟩ := Z
    dsimp only at pm hf1 hr1 hl1 ⊢
    rw [Array.toList_push] at pm
    have pc : fs.toList.Perm (((PySem.strKind P w).hash k, Value.str k tk) :: es.toList) := pm.trans (List.perm_append_singleton _ _)
    have pk : (fs.toList.map sKey).Perm (k :: es.toList.map sKey) := pc.map sKey
    have gT : ∀ e ∈ fs.toList, GoodT w e := fun e he => by
      rcases List.mem_cons.mp (pc.mem_iff.mp he) with z | z
      · rw [z]; exact ⟨k, tk, rfl, rfl⟩
      · exact g e z
    have ndT : (fs.toList.map sKey).Nodup := pk.nodup_iff.mpr (List.nodup_cons.mpr ⟨hnk, nd⟩)
    have mT : ∀ i, (S i || decide (i = k)) = true ↔ i ∈ fs.toList.map sKey := fun i => by
      rw [Bool.or_eq_true, decide_eq_true_eq, hm i, pk.mem_iff, List.mem_cons]
      exact Or.comm
    have hsz : fs.size = n + 1 := by rw [← Array.length_toList, pc.length_eq, List.length_cons, Array.length_toList, hn]
    have hbT : fs.size < scanBound := by rw [hsz]; exact room
    have hled : w.params.followText "set-order" = true ∨ t1.led = true := hl.imp id fun z => by rw [hl1]; exact z
    have fin : ∀ h', Heap.SameBut a s.heap h' → SetRS w h' a (fun j => S j || decide (j = k)) fs.size → Q true { s with heap := h' } := fun h' sb r => by
      have q := hQ h' sb
      rw [hSk] at q
      rw [hsz] at r
      exact q r
    refine wpAny_bind (hgw _ ?_)
    split
    · refine wpAny_bind ?_
      rw [hashByValue_scannable 8 hsc]
      refine wpAny_pure ?_
      refine setRS_tail ?_ ho hex hd gT ndT mT hbT ?_ ?_ ?_ ?_
      · intro b s₁ Q' q; cases b <;> first | exact wpAny_pure q | exact wpAny_rule q
      · first | (split <;> first | exact hf1 | exact SetTable.fits_plain_off hf1) | exact hf1
      · first | (split <;> exact hr1) | exact hr1
      · first | (split <;> exact hled) | exact hled
      · intro h' sb r; dsimp only; exact wpAny_pure (fin h' sb r)
    · refine wpAny_bind (wpAny_pure ?_)
      simp only [↓reduceIte]
      refine setRS_tail ?_ ho hex hd gT ndT mT hbT hf1 hr1 hled ?_
      · intro b s₁ Q' q; cases b <;> first | exact wpAny_pure q | exact wpAny_rule q
      · intro h' sb r; dsimp only; exact wpAny_pure (fin h' sb r)
end
theorem setRS_new {w : World} {h : Heap} {a : Addr} {ks : List Str} (ho : h.get? a = some { cls := .type "set", dict := none, data := .set #[] 0 (.fresh 0 0 (!w.params.followText "set-order")) }) : SetRS w h a (fun j => decide (j ∈ ks.take 0)) 0 :=
  ⟨_, #[], 0, _, ho, ⟨rfl, rfl, rfl⟩, rfl, (fun e he => by simp at he), (by simp), (fun k => by simp), (by decide), (by rfl), rfl, List.Pairwise.nil, by
    show _ ∨ (!w.params.followText "set-order") = true
    cases w.params.followText "set-order"
    · exact .inr rfl
    · exact .inl rfl⟩
section
variable {P : Program} {w : World} {A : Around} {E : Value → Shared → Prop} {s : Shared}
theorem set_update_texts {I : Addr} {fp wr : List Addr} {G : Array GenState → Array GenState → Prop} {n : Nat} {Pv : Nat → Value → Prop} {St : Nat → Shared → Prop} {R : Result → Shared → Prop}
    (W : WalksS P w A.in1 I fp wr G n Pv St) (S : Addr) (hSf : S ∉ fp) (ks : List Str) (hn : n = ks.length) (hb : ks.length + 1 < scanBound) (hval : ∀ i v, Pv i v → ∃ k t, ks[i]? = some k ∧ v = .str k t) :
    ∀ (k i : Nat) (s : Shared), n - i = k → i ≤ n → St i s → (∃ c, c ≤ i ∧ SetRS w s.heap S (fun j => decide (j ∈ ks.take i)) c) →
      (∀ s' c, Moved (S :: wr) G s s' → c ≤ n → SetRS w s'.heap S (fun j => decide (j ∈ ks)) c → R (.ok (.ret .none)) s') →
      codeAny (model P w) A (.builtin "set.update.loop" ⟨[.ref S, .ref I], []⟩) R s := by
  have hSw : S ∉ wr := fun h => hSf (W.sub _ h)
  have hsub : ∀ b ∈ wr, b ∈ S :: wr := fun b hb => List.mem_cons_of_mem _ hb
  intro k
  induction k with
  | zero =>
    intro i s hk' hi hst ⟨c, hc, hS⟩ hR
    have hin : i = n := by omega
    subst hin
    refine codeAny_builtin F.entry_set_update_loop ?_
    rw [Around.under_plainId F.plain_set_update_loop _]
    show wpAny _ A.in1 (pyNext (.ref I) >>= _) _ _ s
    refine wpAny_bind (W.done s _ _ hst fun s' hm => ?_)
    show wpAny _ A.in1 (ret Value.none) _ _ s'
    have e : ks.take i = ks := List.take_of_length_le (by omega)
    rw [e] at hS
    exact wpAny_pure (hR s' c (hm.mono hsub) hc (hS.at fun o e => hm.heap S o hSw e))
  | succ k ih =>
    intro i s hk' hi hst ⟨c, hc, hS⟩ hR
    have hlt : i < n := by omega
    refine codeAny_builtin F.entry_set_update_loop ?_
    rw [Around.under_plainId F.plain_set_update_loop _]
    show wpAny _ A.in1 (pyNext (.ref I) >>= _) _ _ s
    refine wpAny_bind (W.item i s _ _ hlt hst fun v s' hP hst' hm => ?_)
    obtain ⟨z, t, hz, rfl⟩ := hval i v hP
    have hS' : SetRS w s'.heap S (fun j => decide (j ∈ ks.take i)) c := hS.at fun o e => hm.heap S o hSw e
    show wpAny _ A.in1 (holding [Value.str z t] (setAdd S (.str z t)) >>= _) _ _ s'
    refine wpAny_bind (wpAny_holding ?_)
    unfold setAdd
    refine wpAny_holding ?_
    refine wpAny_bind ((PySem.strKind P w).pyHash (k := z) (strIs _ _) ?_)
    refine setRS_add (s := { s' with toks := s'.toks + 1 }) hS' (by omega) fun h' hsb hS2 => ?_
    have hS3 : SetRS w h' S (fun j => decide (j ∈ ks.take (i + 1))) (if decide (z ∈ ks.take i) = true then c else c + 1) := hS2.congr fun j => by
      rw [List.take_add_one, hz]
      simp [List.mem_append]
    have hc3 : (if decide (z ∈ ks.take i) = true then c else c + 1) ≤ i + 1 := by
      split <;> omega
    refine wpAny_pure ⟨plainId_quiet F.plain_set_update_loop _, ih (i + 1) _ (by omega) hlt (W.frame _ s' _ _ hst' (Nat.le_succ _) fun b hb o e => ?_) ⟨_, hc3, hS3⟩ fun s'' c2 hm'' hc'' hS'' => ?_⟩
    · rw [hsb.2 b (fun h : b = S => hSf (by rw [← h]; exact hb))]; exact e
    · refine hR s'' c2 (Moved.trans W.gtrans ((hm.mono hsub).then_heap (Nat.le_succ _) fun b o hb e => ?_) hm'') hc'' hS''
      rw [hsb.2 b (fun h : b = S => hb (by rw [h]; exact List.mem_cons_self))]; exact e
end
end FM
-- FmSetStr2
set_option maxRecDepth 100000
set_option maxHeartbeats 3200000
namespace FM
open PySem PySem.Spec PyProof.Rows L2
abbrev freshSet (w : World) : Obj := { cls := .type "set", dict := none, data := .set #[] 0 (.fresh 0 0 (!w.params.followText "set-order")) }
/-- the texts of the signs of a text -/
def signs (x : Str) : List Str := x.cps.toList.map fun c => ⟨#[c]⟩
theorem signs_length (x : Str) : (signs x).length = x.cps.size := by simp [signs]
section
variable {P : Program} {w : World} {A : Around} {E : Value → Shared → Prop} {s : Shared}
theorem call_set_str {x : Str} {t : Tok} {Q : Value → Shared → Prop} (hh : A.handled = none) (hb : x.cps.size + 1 < scanBound)
    (h : ∀ (h' : Heap) (tk c : Nat), SetRS w h' s.heap.objs.size (fun j => decide (j ∈ signs x)) c → c ≤ x.cps.size → (∀ b o, s.heap.get? b = some o → h'.get? b = some o) → Q (.ref s.heap.objs.size) { s with heap := h', toks := tk }) :
    wpAny (model P w) A (call (.type "set") [.str x t]) Q E s := by
  obtain ⟨c, tl, hmro⟩ := F.called_set.mro
  have hmade := F.called_set.made
  have hsub := F.called_set.sub
  refine wpAny_call (codeAny_of_tree ?_)
  show wpAny _ _ (callAny (.type "set") _) _ _ _
  refine wpAny_pure ⟨Code.quiet_builtin _ (by decide +kernel), codeAny_builtin PySem.F.entry_type_call ?_⟩
  rw [Around.under_plain (weight_type_call_type "set" [.str x t] []) rfl]
  have h1 := F.called_set.notType
  have h2 := F.called_set.canCreate
  have hct := F.typeCall_set_1 (.str x t)
  repeat (any_goals (first | assumption | wp_step))
  refine codeAny_mono (code_set_led1 (.str x t) (E := E) (Q₁ := fun obj s₁ => obj = .ref s.heap.objs.size ∧ s₁ = { s with heap := s.heap.push (freshSet w) }) ⟨rfl, rfl⟩) fun r s₁ hr => ?_
  cases r with
  | error e => exact hr
  | ok fl =>
    cases fl with
    | ret obj =>
      obtain ⟨rfl, rfl⟩ := hr
      have hS : (s.heap.push (freshSet w)).get? s.heap.objs.size = some (freshSet w) := Heap.get?_push_size _ rfl
      have hT : Shared.TypeIs { s with heap := s.heap.push (freshSet w) } (.ref s.heap.objs.size) "set" := ⟨_, hS, rfl⟩
      have hli := F.called_set.init.lookup
      have hbi := F.called_set.init.bind (.ref s.heap.objs.size)
      repeat (any_goals (first | assumption | wp_step))
      refine codeAny_mono (codeAny_call_builtin (R := wants (fun r s₂ => r = .none ∧ ∃ h' tk c, s₂ = { s with heap := h', toks := tk } ∧ SetRS w h' s.heap.objs.size (fun j => decide (j ∈ signs x)) c ∧ c ≤ x.cps.size ∧
          (∀ b o, s.heap.get? b = some o → h'.get? b = some o)) E) F.called_set.init.plain F.entry_set_init (check_set_init_1 hT ?_)) fun r₂ s₂ hr₂ => ?_
      · have hss := PySem.F.sub_str_set
        have hsf := PySem.F.sub_str_frozenset
        have hT2 : Shared.TypeIs { s with heap := s.heap.push (freshSet w) } (.str x t) "str" := typeIs_str _ _ _
        have hne : (Value.type "str" == Value.type "dict") = false := by decide
        unfold Builtin.«set.__init__» noKeywords Builtin.Frozenset.updateFrom
        generalize hPI : pyIter = PI
        wp_walk
        subst hPI
        have hh3 : A.in1.in1.in1.handled = none := by simp [hh]
        refine wpAny_pyIter_str fun ob St hW hst => ?_
        refine wpAny_bind (wpAny_runValue ?_)
        have hz1 : (s.heap.push (freshSet w)).objs.size = s.heap.objs.size + 1 := Heap.size_push ..
        have hSf : s.heap.objs.size ∉ [(s.heap.push (freshSet w)).objs.size] := by
          rw [hz1]
          intro hm
          exact absurd (List.mem_singleton.mp hm) (Nat.ne_of_lt (Nat.lt_succ_self _))
        have hval : ∀ (i : Nat) (v : Value), SignAt x i v → ∃ k t, (signs x)[i]? = some k ∧ v = .str k t := fun i v hv => by
          obtain ⟨c, u, hc, rfl⟩ := hv
          refine ⟨⟨#[c]⟩, u, ?_, rfl⟩
          unfold signs
          rw [List.getElem?_map, Array.getElem?_toList, hc]
          rfl
        refine set_update_texts ((hW _ hh3).toS) s.heap.objs.size hSf (signs x) (signs_length x).symm (by rw [signs_length]; exact hb) hval (x.cps.size - 0) 0 _ (by omega) (Nat.zero_le _) hst ?hS0 ?hR
        case hS0 =>
          exact ⟨0, Nat.le_refl 0, setRS_new (Heap.get?_push_of_some _ hS)⟩
        case hR =>
          intro s' c' hm hc' hS'
          obtain ⟨h', g2, d', tk', os'⟩ := s'
          have eg : g2 = s.gens := hm.gens
          have ed : d' = s.drawn := hm.drawn
          have eo : os' = s.os := hm.os
          subst eg; subst ed; subst eo
          show wpAny _ _ _ _ _ _
          refine wpAny_pure ?_
          show wpAny _ _ (ret Value.none) _ _ _
          refine wpAny_pure ⟨rfl, h', tk', c', rfl, hS', hc', fun b o e => ?_⟩
          have hb0 : b < s.heap.objs.size := Heap.lt_size e
          refine hm.heap b o (fun hm => ?_) (Heap.get?_push_of_some _ (Heap.get?_push_of_some _ e))
          rcases List.mem_cons.mp hm with q | q
          · exact absurd q (Nat.ne_of_lt hb0)
          · have q := List.mem_singleton.mp q
            rw [hz1] at q
            exact absurd q (Nat.ne_of_lt (Nat.lt_succ_of_lt hb0))
      · cases r₂ with
        | error e => exact hr₂
        | ok fl₂ =>
          cases fl₂ with
          | ret r =>
            obtain ⟨rfl, h', tk, c', rfl, hS', hc', hk'⟩ := hr₂
            repeat (any_goals (first | assumption | wp_step))
            exact h _ _ _ hS' hc' hk'
          | _ => exact hr₂.elim
    | _ => exact hr.elim
theorem call_set_tupT {l : Addr} {items : Array Value} (ks : List Str) {Q : Value → Shared → Prop} (hh : A.handled = none) (hl : s.heap.IsTuple l items) (hit : StrsAre items.toList ks) (hb : ks.length + 1 < scanBound)
    (h : ∀ (h' : Heap) (tk c : Nat), SetRS w h' s.heap.objs.size (fun j => decide (j ∈ ks)) c → c ≤ ks.length → (∀ b o, s.heap.get? b = some o → h'.get? b = some o) → Q (.ref s.heap.objs.size) { s with heap := h', toks := tk }) :
    wpAny (model P w) A (call (.type "set") [.ref l]) Q E s := by
  have hisz : items.size = ks.length := by
    have q := StrsAre.length hit
    rw [Array.length_toList] at q
    exact q
  obtain ⟨c, tl, hmro⟩ := F.called_set.mro
  have hmade := F.called_set.made
  have hsub := F.called_set.sub
  refine wpAny_call (codeAny_of_tree ?_)
  show wpAny _ _ (callAny (.type "set") _) _ _ _
  refine wpAny_pure ⟨Code.quiet_builtin _ (by decide +kernel), codeAny_builtin PySem.F.entry_type_call ?_⟩
  rw [Around.under_plain (weight_type_call_type "set" [.ref l] []) rfl]
  have h1 := F.called_set.notType
  have h2 := F.called_set.canCreate
  have hct := F.typeCall_set_1 (.ref l)
  repeat (any_goals (first | assumption | wp_step))
  refine codeAny_mono (code_set_led1 (.ref l) (E := E) (Q₁ := fun obj s₁ => obj = .ref s.heap.objs.size ∧ s₁ = { s with heap := s.heap.push (freshSet w) }) ⟨rfl, rfl⟩) fun r s₁ hr => ?_
  cases r with
  | error e => exact hr
  | ok fl =>
    cases fl with
    | ret obj =>
      obtain ⟨rfl, rfl⟩ := hr
      have hS : (s.heap.push (freshSet w)).get? s.heap.objs.size = some (freshSet w) := Heap.get?_push_size _ rfl
      have hT : Shared.TypeIs { s with heap := s.heap.push (freshSet w) } (.ref s.heap.objs.size) "set" := ⟨_, hS, rfl⟩
      have hli := F.called_set.init.lookup
      have hbi := F.called_set.init.bind (.ref s.heap.objs.size)
      repeat (any_goals (first | assumption | wp_step))
      refine codeAny_mono (codeAny_call_builtin (R := wants (fun r s₂ => r = .none ∧ ∃ h' tk c, s₂ = { s with heap := h', toks := tk } ∧ SetRS w h' s.heap.objs.size (fun j => decide (j ∈ ks)) c ∧ c ≤ ks.length ∧
          (∀ b o, s.heap.get? b = some o → h'.get? b = some o)) E) F.called_set.init.plain F.entry_set_init (check_set_init_1 hT ?_)) fun r₂ s₂ hr₂ => ?_
      · obtain ⟨ol, hol, hcl, nl, hdl⟩ := hl
        obtain ⟨ocls, odict, odata, oslots⟩ := ol
        simp only at hcl hdl
        subst hcl
        subst hdl
        have hol' : (s.heap.push (freshSet w)).get? l = some { cls := .type "tuple", dict := odict, data := .seq items nl, slots := oslots } := Heap.get?_push_of_some _ hol
        have hsls := PySem.F.sub_tuple_set
        have hslf := PySem.F.sub_tuple_frozenset
        have hne : (Value.type "tuple" == Value.type "dict") = false := by decide
        have hl1 : (s.heap.push (freshSet w)).IsTuple l items := ⟨_, hol', rfl, nl, rfl⟩
        unfold Builtin.«set.__init__» noKeywords Builtin.Frozenset.updateFrom
        generalize hPI : pyIter = PI
        wp_walk
        subst hPI
        refine wpAny_pyIter_tuple hl1 ?_
        refine wpAny_bind (wpAny_runValue ?_)
        have hlS : l < s.heap.objs.size := Heap.lt_size hol
        have hh3 : A.in1.in1.in1.handled = none := by simp [hh]
        have hz1 : (s.heap.push (freshSet w)).objs.size = s.heap.objs.size + 1 := Heap.size_push ..
        have hneI : l ≠ (s.heap.push (freshSet w)).objs.size := by
          rw [hz1]
          exact Nat.ne_of_lt (Nat.lt_succ_of_lt hlS)
        have hSf : s.heap.objs.size ∉ [(s.heap.push (freshSet w)).objs.size, l] := by
          rw [hz1]
          intro hm
          rcases List.mem_cons.mp hm with q | q
          · exact absurd q (Nat.ne_of_lt (Nat.lt_succ_self _))
          · exact absurd (List.mem_singleton.mp q) (Nat.ne_of_gt hlS)
        have hval : ∀ (i : Nat) (v : Value), items[i]? = some v → ∃ k t, ks[i]? = some k ∧ v = .str k t := fun i v hv => by
          have hv2 : items.toList[i]? = some v := by rw [Array.getElem?_toList]; exact hv
          obtain ⟨x, t, rfl⟩ := hit.all v (List.mem_of_getElem? hv2)
          refine ⟨x, t, ?_, rfl⟩
          rw [← hit.strs, List.getElem?_map, hv2]
          rfl
        refine set_update_texts ((Walks.tuple hh3 _ l hneI items).toS) s.heap.objs.size hSf ks hisz hb hval (items.size - 0) 0 _ (by omega) (Nat.zero_le _)
          ⟨⟨_, Heap.get?_push_size _ rfl, rfl, rfl⟩, (hl1.push _)⟩ ?hS0 ?hR
        case hS0 =>
          exact ⟨0, Nat.le_refl 0, setRS_new (Heap.get?_push_of_some _ hS)⟩
        case hR =>
          intro s' c' hm hc' hS'
          obtain ⟨h', g2, d', tk', os'⟩ := s'
          have eg : g2 = s.gens := hm.gens
          have ed : d' = s.drawn := hm.drawn
          have eo : os' = s.os := hm.os
          subst eg; subst ed; subst eo
          show wpAny _ _ _ _ _ _
          refine wpAny_pure ?_
          show wpAny _ _ (ret Value.none) _ _ _
          rw [hisz] at hc'
          refine wpAny_pure ⟨rfl, h', tk', c', rfl, hS', hc', fun b o e => ?_⟩
          have hb0 : b < s.heap.objs.size := Heap.lt_size e
          refine hm.heap b o (fun hm => ?_) (Heap.get?_push_of_some _ (Heap.get?_push_of_some _ e))
          rcases List.mem_cons.mp hm with q | q
          · exact absurd q (Nat.ne_of_lt hb0)
          · have q := List.mem_singleton.mp q
            rw [hz1] at q
            exact absurd q (Nat.ne_of_lt (Nat.lt_succ_of_lt hb0))
      · cases r₂ with
        | error e => exact hr₂
        | ok fl₂ =>
          cases fl₂ with
          | ret r =>
            obtain ⟨rfl, h', tk, c', rfl, hS', hc', hk'⟩ := hr₂
            repeat (any_goals (first | assumption | wp_step))
            exact h _ _ _ hS' hc' hk'
          | _ => exact hr₂.elim
    | _ => exact hr.elim
/-- sorted(the set): a new list of its members, in order, once each -/
theorem sorted_setT {a : Addr} {S : Str → Bool} {n : Nat} {Q : Value → Shared → Prop} (R : SetRS w s.heap a S n) (hh : A.handled = none) (h64 : n < 64)
    (hQ : ∀ s' p (out : Array Value) (c : Nat) (ks : List Str), (∀ b o, s.heap.get? b = some o → s'.heap.get? b = some o) → s'.gens = s.gens → s'.os = s.os → s.heap.objs.size ≤ p →
      s'.heap.get? p = some (seqObj "list" out c) → StrsAre out.toList ks → sortedS ks = true → ks.Nodup → (∀ k, k ∈ ks ↔ S k = true) → ks.length = n → Q (.ref p) s') :
    wpAny (model P w) A (call (.builtin "sorted") [.ref a]) Q E s := by
  obtain ⟨o, es, ep, t, ho, hex, hd, g, nd, hm, hb, hf, hn, hr, hl⟩ := R
  refine Calls.call_function_entry kind_sorted plain_sorted entry_sorted (args_sorted1 _) ?_
  unfold Builtin.«sorted»
  refine wpAny_bind (m := checkCount "sorted" 1 1 _) (wpAny_pure ?_)
  refine wpAny_bind (collect_set (A := A.in1) hh ⟨o, ho, hex.1, hd⟩ hf hb hr hl fun s1 vs k1 hz g1 o1 pm => ?_)
  have hvl : vs.length = n := by rw [pm.length_eq, List.length_map, Array.length_toList]; exact hn
  have hall : ∀ v, v ∈ vs → ∃ x t, v = .str x t := fun v hv => by
    obtain ⟨e, he, q⟩ := List.mem_map.mp (pm.mem_iff.mp hv)
    obtain ⟨k, tk, h1, _⟩ := g e he
    exact ⟨k, tk, by rw [← q]; exact h1⟩
  have hS : StrsAre vs (vs.map strOf) := strsAre_map vs hall
  have pk : (vs.map strOf).Perm (es.toList.map sKey) := by
    have q := pm.map strOf
    rw [List.map_map] at q
    have e : es.toList.map (strOf ∘ fun e => e.2) = es.toList.map sKey := List.map_congr_left fun e he => by
      obtain ⟨k, tk, h1, _⟩ := g e he
      show strOf e.2 = sKey e
      unfold sKey
      rw [h1]
      rfl
    first
      | (rw [← e]; exact q)
      | exact q
  refine wpAny_bind (wpAny_newList ?_ (by rw [hvl, sizeLine_eq]; omega))
  have hoL : (s1.heap.push (seqObj "list" vs.toArray 0)).get? s1.heap.objs.size = some (seqObj "list" vs.toArray 0) := Heap.get?_push_size _ rfl
  refine wpAny_bind (wpAny_holding (wpAny_call_entry slot_list_sort ⟨_, hoL, rfl⟩ entry_list_sort (list_sort_treeKAny strKind_oneLt hoL hS.keysOf (fun v₁ v₂ rest e => keyKind_strs (by rw [← e]; exact hS)) (by rw [hvl, sizeLine_eq]; omega) fun st' hp hs => ⟨_, rfl, ?_⟩) (args_list_sort _)))
  obtain ⟨ks, a1, a2, a3⟩ := sorted_out_str hS hp hs
  obtain ⟨c, hc⟩ := sortedHeap_at (vs := vs) (out := (arrOf st').map (·.2)) hoL
  have pn : ks.Perm (es.toList.map sKey) := a2.trans pk
  refine wpAny_pure ⟨_, rfl, hQ _ s1.heap.objs.size _ c ks (fun b u e => ?_) g1 o1 hz hc a1 a3 (pn.nodup_iff.mpr nd) (fun k => by rw [pn.mem_iff, ← hm k]) ?_⟩
  · have q := k1 b u e
    have hlt := Heap.lt_size q
    show (sortedHeap (s1.heap.push (seqObj "list" vs.toArray 0)) s1.heap.objs.size vs _).get? b = some u
    rw [sortedHeap_old (Nat.ne_of_lt hlt) (by rw [size_push']; exact Nat.lt_succ_of_lt hlt)]
    exact Heap.get?_push_of_some _ q
  · rw [pn.length_eq, List.length_map, Array.length_toList]
    exact hn
end
end FM
-- FmSetRule
set_option maxRecDepth 100000
set_option maxHeartbeats 1000000
/-! set(text), set(tuple of texts), sorted of such a set, sorted(texts, key=len), list(text): as rules. -/
namespace FM
open PySem PySem.Spec PyProof.Rows L2
/-- the set of texts at a -/
def SetT (w : World) (a : Addr) (S : Str → Bool) (n : Nat) : HO := .ext fun h => SetRS w h a S n
theorem setT_new {w : World} {P : Program} {H : Hp} {h : Heap} {a : Addr} {S : Str → Bool} {n : Nat} (R : SetRS w h a S n) : ObjOk P w H h a (SetT w a S n) := by
  have ⟨o, _, _, _, ho, _⟩ := R
  exact ⟨R, ⟨o, ho⟩, fun h1 h2 p k => SetRS.at p k⟩
section
variable {X : Cx}
theorem setT_get {pins : List (Addr × Obj)} {σ : L2.St} {H : Hp} {s : Shared} {a : Addr} {S : Str → Bool} {n : Nat} (I : Inv X pins σ H s) (ha : H a = some (SetT X.w a S n)) : SetRS X.w s.heap a S n := (I.hok a _ ha).1
theorem scan_small {n : Nat} (h : n < 4000) : n + 1 < scanBound := by
  have : (4001 : Nat) ≤ scanBound := by decide
  omega
def rSetStr (w : World) : List V → Hp → VK → Prop := fun xs H Q => ∃ x : Str, xs = [.str x] ∧ x.length < 4000 ∧ ∀ p n, H p = none → n ≤ x.length → Q (.ref p) (upd H p (SetT w p (fun j => decide (j ∈ FM.signs x)) n))
theorem cr_setStr (hc : X.calm = true) : CallR X (.type "set") (rSetStr X.w) := by
  intro pins s σ H xs us Q I r h
  obtain ⟨x, rfl, hx, q⟩ := h
  obtain ⟨u, rfl, t, rfl⟩ := vals1 r
  refine call_set_str (I.ok.hd hc) (scan_small hx) fun h' tk c R hc' hk => ?_
  exact ⟨.ref _, upd H s.heap.objs.size (SetT X.w s.heap.objs.size (fun j => decide (j ∈ FM.signs x)) c), I.laid (t' := tk) hk (Nat.le_refl _) (setT_new R), rfl, q _ c (I.hok.fresh (Nat.le_refl _)) hc'⟩
def rSetTup (K : PySem.W.Frag) (w : World) : List V → Hp → VK → Prop := fun xs H Q => ∃ (a : Addr) (ks : List Str), xs = [.ref a] ∧ SqT K H a (ks.map V.str) ∧ ks.length < 4000 ∧ ∀ p n, H p = none → n ≤ ks.length → Q (.ref p) (upd H p (SetT w p (fun j => decide (j ∈ ks)) n))
theorem cr_setTup (hc : X.calm = true) : CallR X (.type "set") (rSetTup X.K X.w) := by
  intro pins s σ H xs us Q I r h
  obtain ⟨a, ks, rfl, ha, hx, q⟩ := h
  obtain rfl := Vals.ref1 r
  obtain ⟨its, rv, pl, hz⟩ := I.tuple ha
  have hl : s.heap.IsTuple a its.toArray := by
    first
      | exact pl.isTuple
      | exact pl
      | (obtain ⟨o, e, c, n, d⟩ := pl; exact ⟨o, e, c, n, d⟩)
  refine call_set_tupT ks (I.ok.hd hc) hl (by simpa using rv.strs) (scan_small hx) fun h' tk c R hc' hk => ?_
  exact ⟨.ref _, upd H s.heap.objs.size (SetT X.w s.heap.objs.size (fun j => decide (j ∈ ks)) c), I.laid (t' := tk) hk (Nat.le_refl _) (setT_new R), rfl, q _ c (I.hok.fresh (Nat.le_refl _)) hc'⟩
def rSortSetT (w : World) : List V → Hp → VK → Prop := fun vs H Q => ∃ (a : Addr) (S : Str → Bool) (n : Nat), vs = [V.ref a] ∧ H a = some (SetT w a S n) ∧ n < 64 ∧
  ∀ (ks : List Str) (p : Addr), sortedS ks = true → ks.Nodup → (∀ k, k ∈ ks ↔ S k = true) → ks.length = n → H p = none → Q (.ref p) (upd H p (.lst (ks.map V.str)))
theorem cr_sortSetT (hc : X.calm = true) : CallR X (.builtin "sorted") (rSortSetT X.w) := by
  intro pins s σ H vs us Q I r h
  obtain ⟨a, S, n, rfl, ha, h64, q⟩ := h
  have R := setT_get I ha
  rw [Vals.ref1 r]
  refine sorted_setT R (I.ok.hd hc) h64 fun s' p out c ks k g o hp hg hi hs hd hm hl => ?_
  have hlen : (ks.map V.str).length ≤ sizeLine := by rw [List.length_map, hl, sizeLine_eq]; omega
  have hn : H p = none := I.hok.fresh hp
  have J : Inv X pins σ (upd H p (.lst (ks.map V.str))) { s with heap := s'.heap, gens := s'.gens, drawn := s'.drawn, toks := s'.toks } :=
    I.call (ch := []) (Un.laid k hp hn) (I.hok.laid k hp ⟨hlen, out.toList, c, vals_of_strs hi, hg⟩) (by rw [g]; exact I.bare) (fun _ z => nomatch z)
  have e : s' = { s with heap := s'.heap, gens := s'.gens, drawn := s'.drawn, toks := s'.toks } := by
    cases s'
    cases s
    cases o
    rfl
  rw [e]
  exact ⟨.ref p, _, J, rfl, q ks p hs hd hm hl hn⟩
def rListStr : List V → Hp → VK → Prop := fun vs H Q => ∃ x : Str, vs = [.str x] ∧ x.length ≤ sizeLine ∧ ∀ p, H p = none → Q (.ref p) (upd H p (.lst ((FM.signs x).map V.str)))
theorem cr_listStr (hc : X.calm = true) : CallR X (.type "list") rListStr := by
  intro pins s σ H vs us Q I r h
  obtain ⟨x, rfl, hx, q⟩ := h
  obtain ⟨u, rfl, t, rfl⟩ := vals1 r
  refine PySem.call_list_str (I.ok.hd hc) x t (hn := hx) fun h' tk acc c hk hS hacc => ?_
  have hv : Vals ((FM.signs x).map V.str) acc.toList := by
    have hl : ((FM.signs x).map V.str).length = acc.toList.length := by
      rw [List.length_map, signs_length, Array.length_toList, hacc.1]
    have go : ∀ (as : List V) (bs : List Value), as.length = bs.length → (∀ (j : Nat) (a : V) (b : Value), as[j]? = some a → bs[j]? = some b → RelV a b) → Vals as bs := by
      intro as
      induction as with
      | nil =>
        intro bs h _
        cases bs with
        | nil => exact .nil
        | cons _ _ => simp at h
      | cons a as ih =>
        intro bs h hj
        cases bs with
        | nil => simp at h
        | cons b bs => exact .cons (hj 0 a b rfl rfl) (ih bs (by simpa using h) fun j a' b' h1 h2 => hj (j + 1) a' b' (by simpa using h1) (by simpa using h2))
    refine go _ _ hl fun j a b h1 h2 => ?_
    obtain ⟨c', u', hc', rfl⟩ := hacc.2 j b (by rw [← Array.getElem?_toList]; exact h2)
    unfold FM.signs at h1
    rw [List.map_map, List.getElem?_map, Array.getElem?_toList, hc'] at h1
    cases h1
    exact ⟨u', rfl⟩
  have hlen : ((FM.signs x).map V.str).length ≤ sizeLine := by rw [List.length_map, signs_length]; exact hx
  exact ⟨.ref _, upd H s.heap.objs.size (.lst ((FM.signs x).map V.str)), I.laid (t' := tk) hk (Nat.le_refl _) ⟨hlen, acc.toList, c, hv, hS⟩, rfl, q _ (I.hok.fresh (Nat.le_refl _))⟩
/-- texts by their length -/
def byLen (ks : List Str) : List Str := ks.mergeSort (PySem.W.dataLe false fun x : Str => PyData.int (x.length : Nat))
def tSortLen (K : PySem.W.Frag) (te : TE) : TE := fun σ H Q => te σ H fun x H1 => ∃ (a : Addr) (ks : List Str), x = .ref a ∧ SqL K H1 a (ks.map V.str) ∧ ks.length ≤ 1000 ∧ (∀ k ∈ ks, k.length ≤ sizeLine) ∧
  ∀ p, H1 p = none → Q (.ref p) (upd H1 p (.lst ((byLen ks).map V.str)))
theorem strs_each {its : List Value} {ks : List Str} (h : StrsAre its ks) : PySem.W.EachIs (fun v (x : Str) => ∃ t, v = Value.str x t) its ks := by
  induction h with
  | nil => exact .nil
  | cons x t _ ih => exact .cons ⟨t, rfl⟩ ih
theorem vals_each {its : List Value} {ks : List Str} (h : PySem.W.EachIs (fun v (x : Str) => ∃ t, v = Value.str x t) its ks) : Vals (ks.map V.str) its := by
  induction h with
  | nil => exact .nil
  | cons e _ ih => exact .cons e ih
theorem pe_sortLen {e : Expr} {te : TE} {p r pos kpos : Pos} (hu : X.A.units + 10 < cLine) (hg : Gl X "sorted") (hm : X.mg "sorted" = none) (hg2 : Gl X "len") (hm2 : X.mg "len" = none) (he : PE X e te)
    (hs : starEach [e] X.env = (false, eval e X.env) :: starEach [] X.env := by rfl) :
    PE X (.Call (.Name "sorted" p) [e] [⟨some "key", .Name "len" r, kpos⟩] pos) (tSortLen X.K te) := by
  refine ⟨fun pins s σ H Q I h => ?_⟩
  refine wpAny_Call_Name_kw (ld_blt I hg hm (by decide +kernel : bootBuiltins "sorted" = some (.builtin "sorted")) ?_)
  refine PyProof.Rows.callWith_kw (args_cons (thn (he.run pins s σ H _ I h) fun v s1 hv => args_nil ?_) hs) (by rw [hs]; rfl) (by rw [hs]; rfl) (by rfl) (by rfl)
  obtain ⟨x, H1, I1, r1, a, ks, rfl, ha, hk, hz, q⟩ := hv
  obtain rfl : v = .ref a := r1
  show wpAny _ _ (evalAll ((do let v ← eval (.Name "len" r) X.env; standAt pos; pure v) :: [])) _ _ s1
  refine wpAny_evalAll_cons (wpAny_bind (ld_blt I1 hg2 hm2 PySem.boot_len (wpAny_bind (wpAny_standAt (wpAny_pure (wpAny_evalAll_nil ?_))))))
  show wpAny _ _ (call (.builtin "sorted") [.ref a] [(Str.ofString "key", .builtin "len")]) _ _ s1
  obtain ⟨its, rv, hl, _⟩ := I1.list ha
  have eR := strs_each (by simpa using rv.strs : StrsAre its ks)
  refine PySem.W.sorted_key_data (b := false) (fun x : Str => PyData.int (x.length : Nat)) hl.isList eR (PySem.W.AllAlike.of fun _ _ => by simp [PySem.W.alike]) (.inr fun d hd => ?_) (by rw [sizeLine_eq]; omega) (fun x _ => ?_) (ksk_s1 _ _) (fun _ => ksk_l1 _ _) (fun _ => rfl) (fun v x hR hx h tk kp => ?_) fun out c h' tk k0 n0 n1 hlen hout => ?_
  · obtain ⟨x, _, rfl⟩ := List.mem_map.mp hd
    exact ⟨(nomatch ·), fun _ => (nomatch ·)⟩
  · show X.A.units + 2 + _ < cLine
    have : (PyData.int (x.length : Nat)).depth ≤ 2 := by simp [PyData.depth]
    omega
  · obtain ⟨t, rfl⟩ := hR
    have hx' := hz x hx
    rw [sizeLine_eq] at hx'
    refine P.len_str (by omega) ?_
    exact ⟨h, _, rfl, fun _ _ z => z, .int _ _⟩
  · have hml : (byLen ks).length = ks.length := List.length_mergeSort ks
    have hbl : ((byLen ks).map V.str).length ≤ sizeLine := by rw [List.length_map, hml, sizeLine_eq]; omega
    have hn : H1 (s1.heap.objs.size + 1) = none := I1.hok.fresh (Nat.le_succ _)
    exact ⟨.ref _, upd H1 (s1.heap.objs.size + 1) (.lst ((byLen ks).map V.str)), I1.laidN (t' := tk) k0 n0 hn ⟨hbl, out, c, vals_each hout, n1⟩, rfl, q _ hn⟩
end
end FM
-- FmSetLst
set_option maxRecDepth 100000
set_option maxHeartbeats 3200000
/-! set(a list of texts) -/
namespace FM
open PySem PySem.Spec PyProof.Rows L2
section
variable {P : Program} {w : World} {A : Around} {E : Value → Shared → Prop} {s : Shared}
theorem call_set_lstT {l : Addr} {items : Array Value} (ks : List Str) {Q : Value → Shared → Prop} (hh : A.handled = none) (hl : s.heap.IsList l items) (hit : StrsAre items.toList ks) (hb : ks.length + 1 < scanBound)
    (h : ∀ (h' : Heap) (tk c : Nat), SetRS w h' s.heap.objs.size (fun j => decide (j ∈ ks)) c → c ≤ ks.length → (∀ b o, s.heap.get? b = some o → h'.get? b = some o) → Q (.ref s.heap.objs.size) { s with heap := h', toks := tk }) :
    wpAny (model P w) A (call (.type "set") [.ref l]) Q E s := by
  have hisz : items.size = ks.length := by
    have q := StrsAre.length hit
    rw [Array.length_toList] at q
    exact q
  obtain ⟨c, tl, hmro⟩ := F.called_set.mro
  have hmade := F.called_set.made
  have hsub := F.called_set.sub
  refine wpAny_call (codeAny_of_tree ?_)
  show wpAny _ _ (callAny (.type "set") _) _ _ _
  refine wpAny_pure ⟨Code.quiet_builtin _ (by decide +kernel), codeAny_builtin PySem.F.entry_type_call ?_⟩
  rw [Around.under_plain (weight_type_call_type "set" [.ref l] []) rfl]
  have h1 := F.called_set.notType
  have h2 := F.called_set.canCreate
  have hct := F.typeCall_set_1 (.ref l)
  repeat (any_goals (first | assumption | wp_step))
  refine codeAny_mono (code_set_led1 (.ref l) (E := E) (Q₁ := fun obj s₁ => obj = .ref s.heap.objs.size ∧ s₁ = { s with heap := s.heap.push (freshSet w) }) ⟨rfl, rfl⟩) fun r s₁ hr => ?_
  cases r with
  | error e => exact hr
  | ok fl =>
    cases fl with
    | ret obj =>
      obtain ⟨rfl, rfl⟩ := hr
      have hS : (s.heap.push (freshSet w)).get? s.heap.objs.size = some (freshSet w) := Heap.get?_push_size _ rfl
      have hT : Shared.TypeIs { s with heap := s.heap.push (freshSet w) } (.ref s.heap.objs.size) "set" := ⟨_, hS, rfl⟩
      have hli := F.called_set.init.lookup
      have hbi := F.called_set.init.bind (.ref s.heap.objs.size)
      repeat (any_goals (first | assumption | wp_step))
      refine codeAny_mono (codeAny_call_builtin (R := wants (fun r s₂ => r = .none ∧ ∃ h' tk c, s₂ = { s with heap := h', toks := tk } ∧ SetRS w h' s.heap.objs.size (fun j => decide (j ∈ ks)) c ∧ c ≤ ks.length ∧
          (∀ b o, s.heap.get? b = some o → h'.get? b = some o)) E) F.called_set.init.plain F.entry_set_init (check_set_init_1 hT ?_)) fun r₂ s₂ hr₂ => ?_
      · obtain ⟨ol, hol, hcl, nl, hdl⟩ := hl
        obtain ⟨ocls, odict, odata, oslots⟩ := ol
        simp only at hcl hdl
        subst hcl
        subst hdl
        have hol' : (s.heap.push (freshSet w)).get? l = some { cls := .type "list", dict := odict, data := .seq items nl, slots := oslots } := Heap.get?_push_of_some _ hol
        have hsls := PySem.F.sub_list_set
        have hslf := PySem.F.sub_list_frozenset
        have hne : (Value.type "list" == Value.type "dict") = false := by decide
        have hl1 : (s.heap.push (freshSet w)).IsList l items := ⟨_, hol', rfl, nl, rfl⟩
        unfold Builtin.«set.__init__» noKeywords Builtin.Frozenset.updateFrom
        generalize hPI : pyIter = PI
        wp_walk
        subst hPI
        refine wpAny_pyIter_list hl1 ?_
        refine wpAny_bind (wpAny_runValue ?_)
        have hlS : l < s.heap.objs.size := Heap.lt_size hol
        have hh3 : A.in1.in1.in1.handled = none := by simp [hh]
        have hz1 : (s.heap.push (freshSet w)).objs.size = s.heap.objs.size + 1 := Heap.size_push ..
        have hneI : l ≠ (s.heap.push (freshSet w)).objs.size := by
          rw [hz1]
          exact Nat.ne_of_lt (Nat.lt_succ_of_lt hlS)
        have hSf : s.heap.objs.size ∉ [(s.heap.push (freshSet w)).objs.size, l] := by
          rw [hz1]
          intro hm
          rcases List.mem_cons.mp hm with q | q
          · exact absurd q (Nat.ne_of_lt (Nat.lt_succ_self _))
          · exact absurd (List.mem_singleton.mp q) (Nat.ne_of_gt hlS)
        have hval : ∀ (i : Nat) (v : Value), items[i]? = some v → ∃ k t, ks[i]? = some k ∧ v = .str k t := fun i v hv => by
          have hv2 : items.toList[i]? = some v := by rw [Array.getElem?_toList]; exact hv
          obtain ⟨x, t, rfl⟩ := hit.all v (List.mem_of_getElem? hv2)
          refine ⟨x, t, ?_, rfl⟩
          rw [← hit.strs, List.getElem?_map, hv2]
          rfl
        refine set_update_texts ((Walks.list hh3 _ l hneI items).toS) s.heap.objs.size hSf ks hisz hb hval (items.size - 0) 0 _ (by omega) (Nat.zero_le _)
          ⟨⟨_, Heap.get?_push_size _ rfl, rfl, rfl⟩, (hl1.push _)⟩ ?hS0 ?hR
        case hS0 =>
          exact ⟨0, Nat.le_refl 0, setRS_new (Heap.get?_push_of_some _ hS)⟩
        case hR =>
          intro s' c' hm hc' hS'
          obtain ⟨h', g2, d', tk', os'⟩ := s'
          have eg : g2 = s.gens := hm.gens
          have ed : d' = s.drawn := hm.drawn
          have eo : os' = s.os := hm.os
          subst eg; subst ed; subst eo
          show wpAny _ _ _ _ _ _
          refine wpAny_pure ?_
          show wpAny _ _ (ret Value.none) _ _ _
          rw [hisz] at hc'
          refine wpAny_pure ⟨rfl, h', tk', c', rfl, hS', hc', fun b o e => ?_⟩
          have hb0 : b < s.heap.objs.size := Heap.lt_size e
          refine hm.heap b o (fun hm => ?_) (Heap.get?_push_of_some _ (Heap.get?_push_of_some _ e))
          rcases List.mem_cons.mp hm with q | q
          · exact absurd q (Nat.ne_of_lt hb0)
          · have q := List.mem_singleton.mp q
            rw [hz1] at q
            exact absurd q (Nat.ne_of_lt (Nat.lt_succ_of_lt hb0))
      · cases r₂ with
        | error e => exact hr₂
        | ok fl₂ =>
          cases fl₂ with
          | ret r =>
            obtain ⟨rfl, h', tk, c', rfl, hS', hc', hk'⟩ := hr₂
            repeat (any_goals (first | assumption | wp_step))
            exact h _ _ _ hS' hc' hk'
          | _ => exact hr₂.elim
    | _ => exact hr.elim
end
section
variable {X : Cx}
def rSetLst (K : PySem.W.Frag) (w : World) : List V → Hp → VK → Prop := fun xs H Q => ∃ (a : Addr) (ks : List Str), xs = [.ref a] ∧ SqL K H a (ks.map V.str) ∧ ks.length < 4000 ∧ ∀ p n, H p = none → n ≤ ks.length → Q (.ref p) (upd H p (SetT w p (fun j => decide (j ∈ ks)) n))
theorem cr_setLst (hc : X.calm = true) : CallR X (.type "set") (rSetLst X.K X.w) := by
  intro pins s σ H xs us Q I r h
  obtain ⟨a, ks, rfl, ha, hx, q⟩ := h
  obtain rfl := Vals.ref1 r
  obtain ⟨its, rv, pl, hz⟩ := I.list ha
  refine call_set_lstT ks (I.ok.hd hc) pl.isList (by simpa using rv.strs) (scan_small hx) fun h' tk c R hc' hk => ?_
  exact ⟨.ref _, upd H s.heap.objs.size (SetT X.w s.heap.objs.size (fun j => decide (j ∈ ks)) c), I.laid (t' := tk) hk (Nat.le_refl _) (setT_new R), rfl, q _ c (I.hok.fresh (Nat.le_refl _)) hc'⟩
end
end FM
-- FmStrs
set_option maxRecDepth 100000
set_option maxHeartbeats 1000000
/-! lists of texts compared; sorted texts of one set are one list -/
namespace FM
open PySem PySem.Spec PySem.SeqAt PyProof.Rows L2
section
variable {A : Around} {s : Shared}
theorem strs_get : ∀ {its : List Value} {ks : List Str}, StrsAre its ks → ∀ j (h : j < its.length) (h' : j < ks.length), ∃ t, its[j] = .str ks[j] t
  | _, _, .cons y t _, 0, _, _ => ⟨t, rfl⟩
  | _, _, .cons y t r, j + 1, h, h' => strs_get r j (Nat.lt_of_succ_lt_succ h) (Nat.lt_of_succ_lt_succ h')
theorem all_same {as bs : List Str} (hl : as.length = bs.length) : (List.range as.length).all (fun j => as.getD j "" == bs.getD j "") = decide (as = bs) := by
  rw [Bool.eq_iff_iff, decide_eq_true_iff, List.all_eq_true]
  constructor
  · intro h
    refine List.ext_getElem hl fun j h1 h2 => ?_
    have q := h j (List.mem_range.mpr h1)
    rw [beq_iff_eq, List.getD_eq_getElem?_getD, List.getD_eq_getElem?_getD, List.getElem?_eq_getElem h1, List.getElem?_eq_getElem h2] at q
    exact q
  · rintro rfl j _
    exact beq_self_eq_true _
theorem str_pairs {xs ys : Array Value} {as bs : List Str} (h1 : StrsAre xs.toList as) (h2 : StrsAre ys.toList bs) (hx : xs.size = as.length) (hy : ys.size = bs.length) :
    ∀ j (q1 : j < xs.size) (q2 : j < ys.size), EqAt A s xs[j] ys[j] (as.getD j "" == bs.getD j "") := fun j q1 q2 => by
  obtain ⟨t, e1⟩ := strs_get h1 j (by simpa using q1) (by omega)
  obtain ⟨u, e2⟩ := strs_get h2 j (by simpa using q2) (by omega)
  rw [Array.getElem_toList] at e1 e2
  rw [e1, e2, List.getD_eq_getElem?_getD, List.getD_eq_getElem?_getD, List.getElem?_eq_getElem (by omega : j < as.length), List.getElem?_eq_getElem (by omega : j < bs.length)]
  exact EqAt.str_str _ t _ u
end
section
variable {X : Cx}
def rEqS (K : PySem.W.Frag) : R2 := fun x y H Q => ∃ (p q : Addr) (as bs : List Str), x = .ref p ∧ y = .ref q ∧ SqL K H p (as.map V.str) ∧ SqL K H q (bs.map V.str) ∧ Q (.bl (decide (as = bs))) H
def rNeS (K : PySem.W.Frag) : R2 := fun x y H Q => ∃ (p q : Addr) (as bs : List Str), x = .ref p ∧ y = .ref q ∧ SqL K H p (as.map V.str) ∧ SqL K H q (bs.map V.str) ∧ Q (.bl (!decide (as = bs))) H
theorem op_eqS (hu : X.A.units + 64 < cLine) : OpR X (compareOp .Eq) (rEqS X.K) := by
  intro pins s σ H x y v u Q I rx ry h
  obtain ⟨p, q, as, bs, rfl, rfl, h1, h2, k⟩ := h
  obtain rfl : v = .ref p := rx
  obtain rfl : u = .ref q := ry
  obtain ⟨xs, v1, l1, _⟩ := I.list h1
  obtain ⟨ys, v2, l2, _⟩ := I.list h2
  have s1 : StrsAre xs as := by simpa using v1.strs
  have s2 : StrsAre ys bs := by simpa using v2.strs
  have n1 : xs.length = as.length := by have := v1.length; simpa using this.symm
  have n2 : ys.length = bs.length := by have := v2.length; simpa using this.symm
  have hb : RcAt X.A s (.ref p) (.ref q) (decide (as = bs)) := by
    by_cases hl : as.length = bs.length
    · have z := RcAt.lists (s := s) l1.isList l2.isList (by simp only [List.size_toArray]; omega) (show X.A.units < cLine by omega) (str_pairs (A := X.A.in1) (s := s) (as := as) (bs := bs) (by simpa using s1) (by simpa using s2) (by simpa using n1) (by simpa using n2))
      rw [List.size_toArray, n1, all_same hl] at z
      exact z
    · have e : decide (as = bs) = false := decide_eq_false fun e => hl (by rw [e])
      rw [e]
      exact RcAt.lists_lengths l1.isList l2.isList (by simp only [List.size_toArray, bne_iff_ne, ne_eq]; omega) (by omega)
  exact hb _ _ _ _ ⟨.bl _, H, I, rfl, k⟩
theorem op_neS (hu : X.A.units + 64 < cLine) : OpR X (compareOp .NotEq) (rNeS X.K) := by
  intro pins s σ H x y v u Q I rx ry h
  obtain ⟨p, q, as, bs, rfl, rfl, h1, h2, k⟩ := h
  obtain rfl : v = .ref p := rx
  obtain rfl : u = .ref q := ry
  obtain ⟨xs, v1, l1, _⟩ := I.list h1
  obtain ⟨ys, v2, l2, _⟩ := I.list h2
  have s1 : StrsAre xs as := by simpa using v1.strs
  have s2 : StrsAre ys bs := by simpa using v2.strs
  have n1 : xs.length = as.length := by have := v1.length; simpa using this.symm
  have n2 : ys.length = bs.length := by have := v2.length; simpa using this.symm
  have hb : RcNeAt X.A s (.ref p) (.ref q) (!decide (as = bs)) := by
    by_cases hl : as.length = bs.length
    · have z := RcNeAt.lists (s := s) l1.isList l2.isList (by simp only [List.size_toArray]; omega) (show X.A.units < cLine by omega) (str_pairs (A := X.A.in1) (s := s) (as := as) (bs := bs) (by simpa using s1) (by simpa using s2) (by simpa using n1) (by simpa using n2))
      rw [List.size_toArray, n1, all_same hl] at z
      exact z
    · have e : decide (as = bs) = false := decide_eq_false fun e => hl (by rw [e])
      rw [e]
      exact RcNeAt.lists_lengths l1.isList l2.isList (by simp only [List.size_toArray, bne_iff_ne, ne_eq]; omega) (by omega)
  exact hb _ _ _ _ ⟨.bl _, H, I, rfl, k⟩
end
/-! texts in order -/
abbrev leS (a b : Str) : Prop := a.cps.toList ≤ b.cps.toList
theorem leS_of {a b : Str} (h : (!ltCps b.cps.toList a.cps.toList) = true) : leS a b := by
  rw [ltCps_eq] at h
  have h2 : ¬ b.cps.toList < a.cps.toList := by simpa using h
  exact List.not_lt.mp h2
theorem pw_rising : ∀ (l : List Str) (p : Str), risingS p l = true → (p :: l).Pairwise leS
  | [], p, _ => List.pairwise_singleton _ _
  | x :: r, p, h => by
    have h' : (!ltCps x.cps.toList p.cps.toList && risingS x r) = true := h
    rw [Bool.and_eq_true] at h'
    have h1 := leS_of h'.1
    have h2 := pw_rising r x h'.2
    refine List.pairwise_cons.mpr ⟨fun y hy => ?_, h2⟩
    rcases List.mem_cons.mp hy with e | e
    · rw [e]; exact h1
    · exact List.le_trans h1 ((List.pairwise_cons.mp h2).1 y e)
theorem pw_sorted : ∀ l : List Str, sortedS l = true → l.Pairwise leS
  | [], _ => List.Pairwise.nil
  | x :: r, h => pw_rising r x h
theorem leS_anti {a b : Str} (h : leS a b) (k : leS b a) : a = b := by
  have e := List.le_antisymm h k
  cases a with | mk ca => cases b with | mk cb =>
  simpa using e
theorem sorted_one {ks l : List Str} (h1 : sortedS ks = true) (d1 : ks.Nodup) (h2 : sortedS l = true) (d2 : l.Nodup) (m : ∀ k, k ∈ ks ↔ k ∈ l) : ks = l :=
  List.Perm.eq_of_pairwise (le := leS) (fun a b _ _ => leS_anti) (pw_sorted ks h1) (pw_sorted l h2) ((List.perm_ext_iff_of_nodup d1 d2).mpr m)
end FM
-- FmPairs
set_option maxRecDepth 100000
set_option maxHeartbeats 1000000
/-! texts in order, sorted(pairs of a length and a text), == of pairs of texts -/
namespace FM
open PySem PySem.Spec PyProof.Rows L2
section
variable {X : Cx}
theorem op_leS : OpR X (compareOp .LtE) (fun x y H Q => ∃ i j, x = .str i ∧ y = .str j ∧ Q (.bl (!decide (j.cps.toList < i.cps.toList))) H) := by
  intro pins s σ H x y v u Q I rx ry h
  obtain ⟨i, j, rfl, rfl, q⟩ := h
  obtain ⟨t, rfl⟩ := rx
  obtain ⟨t', rfl⟩ := ry
  exact PySem.P.le_str ⟨.bl _, H, I, rfl, q⟩
/-- how a pair of a length and a text is read -/
def lenEnc (p : V × Str) : PyData := .tuple [.int (p.2.length : Nat), .str p.2]
def byPair (ps : List (V × Str)) : List (V × Str) := ps.mergeSort (PySem.W.dataLe false lenEnc)
def rSortPairs (K : PySem.W.Frag) : List V → Hp → VK → Prop := fun vs H Q => ∃ (a : Addr) (ps : List (V × Str)), vs = [.ref a] ∧ SqL K H a (ps.map (·.1)) ∧ (∀ p ∈ ps, ∃ t, p.1 = .ref t ∧ SqT K H t [.int (p.2.length : Nat), .str p.2]) ∧ ps.length ≤ 1000 ∧
  ∀ q, H q = none → Q (.ref q) (upd H q (.lst ((byPair ps).map (·.1))))
theorem vals_eachP {its : List Value} : ∀ {ps : List (V × Str)}, Vals (ps.map (·.1)) its → PySem.W.EachIs (fun v (p : V × Str) => RelV p.1 v) its ps := by
  induction its with
  | nil =>
    intro ps r
    cases ps with
    | nil => exact .nil
    | cons _ _ => cases r
  | cons v r0 ih =>
    intro ps r
    cases ps with
    | nil => cases r
    | cons p q =>
      cases r with
      | cons h t => exact .cons h (ih t)
theorem each_valsP {its : List Value} {ps : List (V × Str)} (h : PySem.W.EachIs (fun v (p : V × Str) => RelV p.1 v) its ps) : Vals (ps.map (·.1)) its := by
  induction h with
  | nil => exact .nil
  | cons e _ ih => exact .cons e ih
theorem each_mem2 {α β : Type} {R S : α → β → Prop} {as : List α} {bs : List β} (h : PySem.W.EachIs R as bs) : (∀ a, ∀ b ∈ bs, R a b → S a b) → PySem.W.EachIs S as bs := by
  induction h with
  | nil => intro _; exact .nil
  | cons e _ ih => exact fun f => .cons (f _ _ List.mem_cons_self e) (ih fun a b hb => f a b (List.mem_cons_of_mem _ hb))
theorem cr_sortPairs (hu : X.A.units + 64 < cLine) : CallR X (.builtin "sorted") (rSortPairs X.K) := by
  intro pins s σ H vs us Q I r h
  obtain ⟨a, ps, rfl, ha, hp, hl, q⟩ := h
  rw [Vals.ref1 r]
  obtain ⟨its, rv, pl, _⟩ := I.list ha
  have eR := vals_eachP rv
  have er : PySem.W.EachIs (fun v (p : V × Str) => ∃ as, Reads s.heap v (lenEnc p) as) its ps := each_mem2 eR fun v p hm rp => by
    obtain ⟨t, et, ht⟩ := hp p hm
    have d : Dp X.K H p.1 (lenEnc p) := by rw [et]; exact .tup ht (.cons (.int _) (.cons (.str _) .nil))
    exact Dp.reads I _ _ _ d rp
  refine PySem.W.sorted_data (enc := lenEnc) pl.isList eR er (PySem.W.AllAlike.of fun b b' => rfl) (.inl fun d hd => ?_) (by rw [sizeLine_eq]; omega) (fun b _ => ?_) fun out hout ho => ?_
  · obtain ⟨x, _, rfl⟩ := List.mem_map.mp hd
    exact ⟨_, _, rfl⟩
  · have : (lenEnc b).depth ≤ 2 := by simp [lenEnc, PyData.depth, PyData.depthAll]
    omega
  · obtain ⟨ep, he'⟩ := PyProof.Rows.sortedAll_at s.heap its out.toArray
    have hml : (byPair ps).length = ps.length := List.length_mergeSort ps
    have hbl : ((byPair ps).map (·.1)).length ≤ sizeLine := by rw [List.length_map, hml, sizeLine_eq]; omega
    exact ⟨.ref _, upd H (s.heap.objs.size + 1) (.lst ((byPair ps).map (·.1))), I.laid (t' := s.toks) (fun _ _ => PyProof.Rows.sortedAll_old) (Nat.le_succ _) ⟨hbl, out, ep, each_valsP ho, he'⟩, rfl, q _ (I.hok.fresh (Nat.le_succ _))⟩
end
/-! ### data of texts -/
/-- its signs can be laid -/
def okS (z : Str) : Prop := PyData.strOk z = true
theorem shaped_str {z : Str} (h : okS z) : SeqAt.shaped (.str z) = true := by
  unfold SeqAt.shaped
  rw [Bool.and_eq_true]
  exact ⟨h, by simp [PyData.depth]⟩
def prD (a b : Str) : PyData := .tuple [.str a, .str b]
theorem shaped_pr {a b : Str} (ha : okS a) (hb : okS b) : SeqAt.shaped (prD a b) = true := by
  unfold SeqAt.shaped
  rw [Bool.and_eq_true]
  refine ⟨?_, by simp [prD, PyData.depth, PyData.depthAll]⟩
  show (PyData.strOk a && (PyData.strOk b && true)) = true
  rw [show PyData.strOk a = true from ha, show PyData.strOk b = true from hb]
  rfl
theorem eqv_pr (a b c d : Str) : PyData.eqv (prD a b) (prD c d) = decide (a = c ∧ b = d) := by
  have e : PyData.eqv (prD a b) (prD c d) = ((a == c) && ((b == d) && true)) := by simp [prD, PyData.eqv, PyData.eqvAll]
  rw [e, Bool.eq_iff_iff]
  simp
theorem dp_pr {K : PySem.W.Frag} {H : Hp} {p : Addr} {a b : Str} (h : SqT K H p [.str a, .str b]) : Dp K H (.ref p) (prD a b) := .tup h (.cons (.str a) (.cons (.str b) .nil))
theorem eq_pr {K : PySem.W.Frag} {H : Hp} {p q : Addr} {a b c d : Str} {Q : VK} (h1 : SqT K H p [.str a, .str b]) (h2 : SqT K H q [.str c, .str d]) (ha : okS a) (hb : okS b) (hc : okS c) (hd : okS d) (k : Q (.bl (decide (a = c ∧ b = d))) H) : rEqD K (.ref p) (.ref q) H Q :=
  ⟨_, _, dp_pr h1, dp_pr h2, shaped_pr ha hb, shaped_pr hc hd, by rw [eqv_pr]; exact k⟩
theorem ne_pr {K : PySem.W.Frag} {H : Hp} {p q : Addr} {a b c d : Str} {Q : VK} (h1 : SqT K H p [.str a, .str b]) (h2 : SqT K H q [.str c, .str d]) (ha : okS a) (hb : okS b) (hc : okS c) (hd : okS d) (k : Q (.bl (!decide (a = c ∧ b = d))) H) : rNeD K (.ref p) (.ref q) H Q :=
  ⟨_, _, dp_pr h1, dp_pr h2, shaped_pr ha hb, shaped_pr hc hd, by rw [eqv_pr]; exact k⟩
end FM
-- FmGenComp
set_option maxRecDepth 100000
set_option maxHeartbeats 2000000
/-! name = [x for i, x in zip(range(n), g)], g a generator that hands out n items and sleeps. -/
namespace FM
open PySem PySem.Spec PyProof.Rows L2 GenW
open Sem (wp)
/-- an untracked object, younger than the base, is tracked from now on -/
theorem un_adopt {P : Program} {w : World} {fs : List Addr} {H H' : Hp} {h h1 : Heap} {a : Addr} {o : HO} (u : Un fs [] H H' h h1) (x : HOk P w H h) (ha : h.objs.size ≤ a) : Un fs [] H (upd H' a o) h h1 := by
  have hn : H a = none := x.fresh ha
  refine ⟨u.keep, u.slot, fun b ob e n q => ?_, u.there, fun b xs e => ?_, fun b o' v e => ?_, fun b ps e => ?_⟩
  · rw [upd_ne (Nat.ne_of_lt (Nat.lt_of_lt_of_le (Heap.lt_size e) ha))]
    exact u.free b ob e n q
  · rw [upd_ne (ne_of_none e hn)]
    exact u.tups b xs e
  · rw [upd_ne (ne_of_none e hn)]
    exact u.frzs b o' v e
  · rw [upd_ne (ne_of_none e hn)]
    exact u.tbls b ps e
theorem hok_adopt {P : Program} {w : World} {H : Hp} {h : Heap} {a : Addr} {o : HO} (x : HOk P w H h) (hn : H a = none) (new : ObjOk P w (upd H a o) h a o) : HOk P w (upd H a o) h := fun b u e => by
  by_cases hb : b = a
  · subst hb
    rw [upd_same] at e
    cases e
    exact new
  · rw [upd_ne hb] at e
    exact (x b u e).stay (fun c v _ q => q) (fun c q => by rw [upd_ne (ne_of_none q hn)]; exact q) fun c xs q => by rw [upd_ne (ne_of_none q hn)]; exact q
section
variable {X : Cx}
/-- the objects of the zip, the new list, the block's names -/
abbrev cC (N : Addr) : List Addr := [N + 3, N + 2, N, N + 4, N + 1, N + 5]
theorem mem_cC {N b : Addr} : b ∈ cC N ↔ b = N + 3 ∨ b = N + 2 ∨ b = N ∨ b = N + 4 ∨ b = N + 1 ∨ b = N + 5 := by simp [cC]
/-- ahead of turn j -/
structure CL (P : Program) (w : World) (A2 : Around) (outer : List Env) (H1 : Hp) (sc : Shared) (G : Gd) (ls : List V) (N a : Addr) (g : Nat) (n : Int) (j : Nat) (s : Shared) : Prop where
  zip : IsZip s.heap (N + 3) (N + 1) (N + 2) .none
  TI : IsTupOf2 s.heap (N + 1) (.ref N) (.ref a)
  TO : ∃ a1 a2, IsTupOf2 s.heap (N + 2) a1 a2
  rg : IsRangeIter s.heap N j (n - j) 1
  L : ∃ us c, s.heap.get? (N + 4) = some { cls := .type "list", data := .seq us.toArray c } ∧ Vals (ls.take j) us
  loc : ∃ m, s.heap.Ns (N + 5) m
  gen : s.heap.IsGen a g
  lim : s.heap.NoLimit
  os : s.os = sc.os
  bare : AllBare s.gens
  hp : ∃ H', Un (frs outer) [] H1 H' sc.heap s.heap ∧ HOk P w H' s.heap ∧ (∀ b ∈ cC N, H' b = none) ∧ (0 < j → G.ok (ls.take j) H')
  go : ∃ gs, s.gens[g]? = some gs ∧ (((j : Nat) : Int) < n → ∀ t, Nap (cC N) s t → gs.Goes (model P w) A2 (ZEnd P w outer H1 sc (cC N) a g (fun _ _ => False) fun _ _ _ => False) (ZItem P w outer H1 sc (cC N) a g G) (sizeLine - j) (.send .none) (t.setGen g .running))
/-- what is asked of the generator's call: its items are those of ls -/
def tLz (tz : TZen) (n : Nat) : TE := fun σ H Q => ∃ ls : List V, ls.length = n ∧ tz σ H ⟨fun ys H1 => ys = ls.take ys.length ∧ (ys.length = n → ∀ D, H1 D = none → Q (.ref D) (upd H1 D (.lst ls))), n⟩
theorem lz_comp {k : Nat} {er e : Expr} {tz : TZen} {n : Nat} {y1 y2 : Str} {px p1 p2 p3 pos2 pos pos' tp : Pos} {kk : Nat} {scope : Scope} {pins : List (Addr × Obj)} {s : Shared} {σ : L2.St} {H : Hp} {Q : VK} {use : Option (Value → Sem Unit)} {Qf : Value → Shared → Prop}
    (I : Inv X pins σ H s) (hr0 : PRn X er n) (h : PZen X k e tz) (hn : 0 < n) (hn2 : n ≤ 1000) (hsm : Builtin.Range.small 0 n 1 = true) (hsz : Builtin.Range.rangeSize 0 n 1 = n)
    (hr : Room (k + 3) X.A) (hgz : Gl X "zip") (hmz : X.mg "zip" = none)
    (hsk : scope.kind = .function) (hsl : ∀ y ∈ scope.names, y.2 = .local) (hl1 : scope.names.lookup y1 = some .local) (hl2 : scope.names.lookup y2 = some .local) (huq : ∀ y ∈ scope.names, scope.names.lookup y.1 = some y.2) (hdb : (y2 == ("__debug__" : Str)) = false)
    (hs : ∀ x, foldedSetIterable (.Call (.Name "zip" p3) [er, e] [] pos2) X.env x = pure x)
    (h0 : tLz tz n σ H Q)
    (hRR : ∀ D C s' m H', Inv X pins σ H' s' → Q (.ref D) H' → s'.heap.Ns C m → FpOk X pins H' C → compPost (model X.prog X.w) X.A X.xe use Qf (.ref D) C (.ok .next) s')
    (he2 : starEach [er, e] X.env = (false, eval er X.env) :: starEach [e] X.env := by rfl) (he3 : starEach [e] X.env = (false, eval e X.env) :: starEach [] X.env := by rfl) (hpl : (backTo pos2 (starEach [e] X.env)).any (·.1) = false := by rfl) :
    wpAny (model X.prog X.w) X.A (comprehension (.ListComp (.Name y2 px) [⟨.Tuple [.Name y1 p1, .Name y2 p2] kk tp, .Call (.Name "zip" p3) [er, e] [] pos2, [], 0⟩] scope pos) scope X.env pos' (newList []) false (eval (.Call (.Name "zip" p3) [er, e] [] pos2) X.env) use) Qf X.xe s := by
  obtain ⟨ls, hlen, h0⟩ := h0
  have hfree : ∀ y ∈ scope.names, y.2 = .free → ∃ c, X.env.cells.lookup y.1 = some c := fun y hy e => by rw [hsl y hy] at e; cases e
  refine wpAny_comprehension_free (use := use) rfl hs (closure_ok hfree) hsk (fun y hy e => by rw [huq y hy, e])
    (Call_ (ld_blt I hgz hmz PyProof.Rows.boot_zip (PyProof.Rows.callWith_type1 (args_cons (thn (hr0.run pins s σ H I) fun v1 s1 h1 => args_cons ?_ he3) he2) he2 hpl)))
  obtain ⟨r, tr, ur, vr, rfl, hr1, I1, fr⟩ := h1
  have I1' : Inv X (pins ++ pinsAt [r] s1.heap) σ H s1 := I1.pinned (fun b hb => by rw [List.mem_singleton.mp hb]; exact fr) fun b hb => by
    rw [List.mem_singleton.mp hb]
    exact ⟨_, hr1, fun v q => by cases q⟩
  refine thn (h.run _ s1 σ H _ I1' h0) fun v2 s2 h2 => args_nil ?_
  obtain ⟨H1, sc, I2, ⟨a, g, c, rfl, m1, m2, mg, mgs, mos, mb, ml, mk, wake⟩⟩ := h2
  have hr2 := mk _ _ (I2.pin (r, _) (List.mem_append_right _ (List.mem_append_right _ (mem_pinsAt (List.mem_singleton.mpr rfl) hr1)))).1
  refine zip_rg (n := n) (g := g) ⟨⟨tr, ur, vr, hr2⟩, hsm, hsz, mg⟩ fun hz z1 z2 z3 z4 z5 z6 => wpAny_pyIter_zip z1 ?_
  have ssz : sc.heap.objs.size ≤ s2.heap.objs.size := Nat.le_trans m1 (Nat.le_of_lt m2)
  generalize hN : s2.heap.objs.size = N at *
  refine wpAny_newObj_type (newEnv_comp ?_) (by show 0 ≤ sizeLine; decide)
  have noCells : ∀ (names : List (Str × NameKind)) (hp : Heap), (∀ y ∈ names, y.2 = .local) → pushCells hp names = hp := by
    intro names
    induction names with
    | nil => intro hp _; rfl
    | cons y r ih =>
      intro hp hl
      obtain ⟨n0, k0⟩ := y
      have e0 : k0 = .local := hl (n0, k0) List.mem_cons_self
      subst e0
      unfold pushCells
      exact ih hp fun y hy => hl y (List.mem_cons_of_mem _ hy)
  have e4 : hz.objs.size = N + 4 := z5
  show codeAny _ _ (.compStart (.ListComp (.Name y2 px) [⟨.Tuple [.Name y1 p1, .Name y2 p2] kk tp, .Call (.Name "zip" p3) [er, e] [] pos2, [], 0⟩] scope pos) 0 (.ref (N + 3)) (.ref hz.objs.size)
    (compEnvC scope (cellsFrom ((hz.push { cls := .type "list", data := .seq ([] : List Value).toArray }).objs.size + 1) scope.names (cloFrom X.env.cells scope.names [])) (hz.push { cls := .type "list", data := .seq ([] : List Value).toArray }).objs.size X.env))
    (compPost (model X.prog X.w) X.A X.xe use Qf (.ref hz.objs.size) (hz.push { cls := .type "list", data := .seq ([] : List Value).toArray }).objs.size)
    { s2 with heap := pushCells ((hz.push { cls := .type "list", data := .seq ([] : List Value).toArray }).push { cls := .type "dict", data := .dict #[] }) scope.names }
  rw [noCells _ _ hsl]
  have e5 : (hz.push { cls := .type "list", data := .seq ([] : List Value).toArray }).objs.size = N + 5 := by rw [Heap.size_push, e4]
  have gD : (hz.push { cls := .type "list", data := .seq ([] : List Value).toArray }).get? (N + 4) = some { cls := .type "list", data := .seq ([] : List Value).toArray } := by
    rw [← e4]
    exact Heap.get?_push_size _ rfl
  have hNs : ((hz.push { cls := .type "list", data := .seq ([] : List Value).toArray }).push { cls := .type "dict", data := .dict #[] }).Ns (N + 5) (fun _ => none) := by
    rw [← e5]
    exact Heap.Ns.new ..
  have k6 : ∀ b o, hz.get? b = some o → ((hz.push { cls := .type "list", data := .seq ([] : List Value).toArray }).push { cls := .type "dict", data := .dict #[] }).get? b = some o := fun b o q => Heap.get?_push_of_some _ (Heap.get?_push_of_some _ q)
  have gD6 : ((hz.push { cls := .type "list", data := .seq ([] : List Value).toArray }).push { cls := .type "dict", data := .dict #[] }).get? (N + 4) = some { cls := .type "list", data := .seq ([] : List Value).toArray } := Heap.get?_push_of_some _ gD
  rw [e4, e5]
  generalize hh6 : (hz.push { cls := .type "list", data := .seq ([] : List Value).toArray }).push { cls := .type "dict", data := .dict #[] } = h6 at hNs k6 gD6 ⊢
  generalize hce : compEnvC scope (cellsFrom (N + 5 + 1) scope.names (cloFrom X.env.cells scope.names [])) (N + 5) X.env = ce
  have ceL : ce.locals = N + 5 := by rw [← hce]; rfl
  have ceS : ce.scope = relS scope X.env.scope := by rw [← hce]; rfl
  have ceF : ce.scope.kind = .function := by rw [ceS]; exact hsk
  have ceK : ∀ y, scope.names.lookup y = some .local → ce.kindOf y = some .local := fun y hy => by
    unfold Env.kindOf
    rw [ceS]
    exact lookup_relS_keep (by decide) hy
  have hCs : ∀ b ∈ cC N, N ≤ b := fun b hb => by
    rcases mem_cC.mp hb with q | q | q | q | q | q
    · rw [q]; exact Nat.le_add_right _ _
    · rw [q]; exact Nat.le_add_right _ _
    · rw [q]; exact Nat.le_refl _
    · rw [q]; exact Nat.le_add_right _ _
    · rw [q]; exact Nat.le_add_right _ _
    · rw [q]; exact Nat.le_add_right _ _
  have hCsc : ∀ b ∈ cC N, sc.heap.objs.size ≤ b := fun b hb => Nat.le_trans ssz (hCs b hb)
  have hCf : ∀ b ∈ cC N, b ∉ frs X.stack := fun b hb hm => by
    rcases List.mem_cons.mp (I2.stkSub _ hm) with z | z
    · exact absurd (Nat.lt_of_lt_of_le I2.lt (hCsc b hb)) (by rw [z]; exact Nat.lt_irrefl _)
    · exact I2.nofs (hCsc b hb) z
  have aN : a < N := m2
  have aC : a ∉ cC N := fun hb => absurd (Nat.lt_of_lt_of_le aN (hCs a hb)) (Nat.lt_irrefl _)
  have cs : cStatics ∉ cC N := fun hb => by
    have : cStatics < s2.heap.objs.size := let ⟨_, q, _⟩ := ml; q.lt
    rw [hN] at this
    exact absurd (Nat.lt_of_lt_of_le this (hCs _ hb)) (Nat.lt_irrefl _)
  have noLim : ∀ (h' : Heap) {H' : Hp}, Un (frs X.stack) [] H1 H' sc.heap h' → h'.NoLimit := fun h' {H'} un => I2.ok.mod.nolimit.keeps fun b o eb => un.keep b o (I2.bs b o eb).1 (I2.bs b o eb).2 (fun hm => by
    rcases List.mem_cons.mp (I2.stkSub b hm) with z | z
    · have q1 := Heap.lt_size eb
      have q2 := Nat.le_trans I2.ok.bsz I2.ok.above
      rw [z] at q1
      exact absurd (Nat.lt_of_lt_of_le q1 q2) (Nat.lt_irrefl _)
    · exact I2.ok.nofr eb z) (fun hb => (nomatch hb))
  have kAll : ∀ b o, s2.heap.get? b = some o → h6.get? b = some o := fun b o q => k6 b o (z6 b o q)
  have kp : ∀ b o, sc.heap.get? b = some o → h6.get? b = some o := fun b o q => kAll b o (mk b o q)
  have start : CL X.prog X.w X.A.in1.in1 X.stack H1 sc ⟨fun ys H1 => ys = ls.take ys.length ∧ (ys.length = n → ∀ D, H1 D = none → Q (.ref D) (upd H1 D (.lst ls))), n⟩ ls N a g n 0 { s2 with heap := h6 } := by
    refine ⟨k6 _ _ z1, k6 _ _ z2, ⟨_, _, k6 _ _ z3⟩, by simpa using k6 _ _ z4, ⟨[], 0, gD6, .nil⟩, ⟨_, hNs⟩, mg.keeps kAll, ml.keeps kAll, mos, mb, ⟨H1, Un.kept kp, I2.hok.kept kp, fun b hb => I2.hok.fresh (hCsc b hb), fun q => absurd q (Nat.lt_irrefl _)⟩, _, mgs, fun _ t ht => ⟨rfl, ?_⟩⟩
    refine wake X.A.in1.in1 (cC N) (t.setGen g .running) ⟨hr.hd, by have := hr.dp; show X.A.depth + 3 * k + 5 < _; omega, by have := hr.un; show X.A.units + 1 + 1 + 16 * k + 200 < _; omega⟩ I2.ok.frames
      hCs (fun b o q => ht.keep b o (fun hb => ?_) (kAll b o q)) ht.own (ht.os.trans mos) (allBare_setGen ht.bare rfl)
    have lt := Heap.lt_size q
    rw [hN] at lt
    exact absurd (Nat.lt_of_lt_of_le lt (hCs b hb)) (Nat.lt_irrefl _)
  suffices loop : codeAny (model X.prog X.w) X.A (.compLoop (.ListComp (.Name y2 px) [⟨.Tuple [.Name y1 p1, .Name y2 p2] kk tp, .Call (.Name "zip" p3) [er, e] [] pos2, [], 0⟩] scope pos) 0 (.ref (N + 3)) (.ref (N + 4)) ce) (compPost (model X.prog X.w) X.A X.xe use Qf (.ref (N + 4)) (N + 5)) { s2 with heap := h6 } from
    codeAny_compStart_list loop (wpAny_pyIter_zip start.zip loop)
  refine compLoop_any (fun m s' => ∃ j, j + m = n ∧ CL X.prog X.w X.A.in1.in1 X.stack H1 sc ⟨fun ys H1 => ys = ls.take ys.length ∧ (ys.length = n → ∀ D, H1 D = none → Q (.ref D) (upd H1 D (.lst ls))), n⟩ ls N a g n j s') ?_ n ⟨0, Nat.zero_add _, start⟩
  rintro m s ⟨j, hj, z⟩
  obtain ⟨hz0, hTI, ⟨a1, a2, hTO⟩, hrg, ⟨us, ca, hL, hus⟩, ⟨mn, hloc⟩, hgen, hlim, hos, hb, ⟨H', hu, hok, hC0, hG⟩, ⟨gs, hgs, hgo⟩⟩ := z
  have nz : ∀ {x y : Nat}, x ≠ y → (N + x : Nat) ≠ N + y := fun h q => h (by omega)
  have hus' := hus.length
  by_cases hlt0 : j < n
  · have hlt : (0 : Int) < (n : Int) - (j : Nat) := by omega
    obtain ⟨m', hm'⟩ : ∃ m', sizeLine - j = m' + 1 := ⟨sizeLine - j - 1, by rw [sizeLine_eq]; omega⟩
    have hm2 : sizeLine - (j + 1) = m' := by omega
    have zin : N + 3 ∈ cC N := mem_cC.mpr (.inl rfl)
    have tin : N + 2 ∈ cC N := mem_cC.mpr (.inr (.inl rfl))
    have rin : N ∈ cC N := mem_cC.mpr (.inr (.inr (.inl rfl)))
    have inD : N + 4 ∈ cC N := mem_cC.mpr (.inr (.inr (.inr (.inl rfl))))
    have tti : N + 1 ∈ cC N := mem_cC.mpr (.inr (.inr (.inr (.inr (.inl rfl)))))
    have inL : N + 5 ∈ cC N := mem_cC.mpr (.inr (.inr (.inr (.inr (.inr rfl)))))
    refine next_zip ⟨_, hz0, rfl⟩ (zip_turn0 (zap _) hz0 (.inl rfl) hTI hTO hrg hlt fun h1 tk t e1z e2t y3 y4 y5 => ?_)
    have kC : ∀ b o, b ∉ cC N → s.heap.get? b = some o → h1.get? b = some o := fun b o hb q =>
      y5 b o (fun e => hb (mem_cC.mpr (.inl e))) (fun e => hb (mem_cC.mpr (.inr (.inl e)))) (fun e => hb (mem_cC.mpr (.inr (.inr (.inl e))))) q
    have hL1 : h1.get? (N + 4) = some { cls := .type "list", data := .seq us.toArray ca } := y5 _ _ (nz (by decide)) (nz (by decide)) (nz (x := 4) (y := 0) (by decide)) hL
    have hTI1 : IsTupOf2 h1 (N + 1) (.ref N) (.ref a) := y5 _ _ (nz (by decide)) (nz (by decide)) (nz (x := 1) (y := 0) (by decide)) hTI
    have hN1 : h1.Ns (N + 5) mn := hloc.at' fun o e => y5 _ o (nz (by decide)) (nz (by decide)) (nz (x := 5) (y := 0) (by decide)) e
    obtain ⟨oL, esL, epL, hoL, hdL, _⟩ := id hN1
    have nap : Nap (cC N) s { s with heap := h1, toks := tk } := ⟨rfl, hb, kC, fun b hb => by
      rcases mem_cC.mp hb with q | q | q | q | q | q
      · rw [q]; exact ⟨_, e1z, fun v q => by cases q⟩
      · rw [q]; exact ⟨_, e2t, fun v q => by cases q⟩
      · rw [q]; exact ⟨_, y3, fun v q => by cases q⟩
      · rw [q]; exact ⟨_, hL1, fun v q => by cases q⟩
      · rw [q]; exact ⟨_, hTI1, fun v q => by cases q⟩
      · rw [q]; exact ⟨_, hoL, fun v q => by rw [hdL] at q; cases q⟩⟩
    have lim1 : h1.NoLimit := let ⟨mc, q1, q2⟩ := hlim; ⟨mc, q1.at' fun o e => kC _ o cs e, q2⟩
    have gen1 : h1.IsGen a g := let ⟨o, nm, qn, e, q⟩ := hgen; ⟨o, nm, qn, kC _ _ aC e, q⟩
    have hgl : g < s.gens.size := (Array.getElem?_eq_some_iff.mp hgs).1
    refine wpAny_gsz (n := g + 1) hgl (gen_special (n := sizeLine - j) lim1 (by have := hr.dp; show X.A.depth < _; omega) gen1 hgs (hgo (by omega) _ nap) (fun r s₁ hR => ?_) fun v s₁ gs' hbare hv hsz => ?_)
    · rcases hR with ⟨_, _, _, _, _, _, _, _, _, hF⟩ | ⟨_, _, hc, _⟩
      · exact hF.elim
      · obtain ⟨_, _, _, _, _, _, _, _, _, _, _, _, hF⟩ := hc
        exact hF.elim
    rw [hm'] at hv
    obtain ⟨ys, x, Hn, hylen, rv, ⟨hy1, hy2⟩, os1, bare1, gen2, un1, hok1, still, kap⟩ := hv
    have ylen : ys.length = j := by omega
    have noC : ∀ b ∈ cC N, Hn b = none := fun b hb => (still b hb).1
    have keepC : ∀ b ∈ cC N, ∀ o, h1.get? b = some o → s₁.heap.get? b = some o := fun b hb o e => (still b hb).2 o e
    have gsz : g < s₁.gens.size := by
      have q : (s₁.setGen g gs').gens.size = s₁.gens.size := setGen_size _ _ _
      have q2 : g + 1 ≤ (s₁.setGen g gs').gens.size := hsz
      omega
    refine ⟨v, rfl, keepC _ zin _ e1z, keepC _ tin _ e2t, fun h' q1 q2 q3 q4 q5 => ?_⟩
    have q5 : ∀ c o, c ≠ N + 3 → c ≠ N + 2 → s₁.heap.get? c = some o → h'.get? c = some o := q5
    refine wpAny_letOwnedTupleGo_zip q1 fun h2 hz2 sb2 => ?_
    have Tz : (s₁.setGen g gs').heap.objs.size ≠ N + 3 := Nat.ne_of_gt (Heap.lt_size (keepC _ zin _ e1z))
    refine assign_Tuple_tuple (items := #[.int ((j : Nat) : Int) t, v]) hr.hd ⟨_, sb2.extBut _ _ Tz q3, rfl, _, rfl⟩ rfl rfl fun h3 hx3 => ?_
    have up23 : ∀ b o, h2.get? b = some o → h3.get? b = some o := fun b o e => hx3 b o (Nat.ne_of_lt (Heap.lt_size e)) e
    have up13 : ∀ b o, b ≠ N + 3 → b ≠ N + 2 → s₁.heap.get? b = some o → h3.get? b = some o := fun b o n1 n2 e => up23 b o (sb2.extBut _ _ n1 (q5 b o n1 n2 e))
    have hp : (ce.scope.kind == .class || (ce.scope.kind == .module && ce.locals != ce.globals)) = false := by rw [ceF]; rfl
    have hN3 : h3.Ns ce.locals mn := by
      rw [ceL]
      exact hN1.at' fun o e => up13 _ o (nz (by decide)) (nz (by decide)) (keepC _ inL o e)
    show wpAny _ _ (assignInOrder [assign (.Name y1 p1) ce, assign (.Name y2 p2) ce] [.int ((j : Nat) : Int) t, v]) _ _ _
    refine assignInOrder_cons (wpAny_assign_Name (wpAny_storeName_local (ceK _ hl1) hN3 (fun h4 hn4 sb4 => ?_) hp))
    refine assignInOrder_cons (wpAny_assign_Name (wpAny_storeName_local (ceK _ hl2) hn4 (fun h5 hn5 sb5 => assignInOrder_nil ?_) hp))
    have up35 : ∀ b o, b ≠ N + 5 → h3.get? b = some o → h5.get? b = some o := fun b o n1 e => by
      rw [← ceL] at n1
      exact sb5.extBut _ _ n1 (sb4.extBut _ _ n1 e)
    have hD5 : h5.get? (N + 4) = some { cls := .type "list", data := .seq us.toArray ca } := up35 _ _ (nz (by decide)) (up13 _ _ (nz (by decide)) (nz (by decide)) (keepC _ inD _ hL1))
    refine wpAny_tests_nil ?_
    rw [if_pos rfl]
    refine wpAny_Name (wpAny_loadName_local (v := v) ceF (ceK _ hl2) hn5 (by simp) ?_) hdb
    refine append_at (its := us.toArray) hD5 (fun h7 sb7 ho7 => ?_) (by rw [List.size_toArray, sizeLine_eq, ← hus', List.length_take]; omega)
    have up17 : ∀ b o, b ≠ N + 3 → b ≠ N + 2 → b ≠ N + 5 → b ≠ N + 4 → s₁.heap.get? b = some o → h7.get? b = some o := fun b o n1 n2 n3 n4 e => sb7.extBut _ _ n4 (up35 b o n3 (up13 b o n1 n2 e))
    have up27 : ∀ b o, b ≠ N + 5 → b ≠ N + 4 → h2.get? b = some o → h7.get? b = some o := fun b o n3 n4 e => sb7.extBut _ _ n4 (up35 b o n3 (up23 b o e))
    have k17 : ∀ b o, b ∉ cC N → s₁.heap.get? b = some o → h7.get? b = some o := fun b o nb e =>
      up17 b o (fun z => nb (z ▸ zin)) (fun z => nb (z ▸ tin)) (fun z => nb (z ▸ inL)) (fun z => nb (z ▸ inD)) e
    have hN7 : h7.Ns (N + 5) (fun x => if x = y2 then some v else if x = y1 then some (.int ((j : Nat) : Int) t) else mn x) := by
      rw [ceL] at hn5
      exact hn5.at' fun o e => sb7.extBut _ _ (nz (by decide)) e
    have e2 : ys ++ [x] = ls.take (j + 1) := by
      rw [List.length_append, ylen] at hy1
      exact hy1
    have e1 : ls.take j = ys := by
      have q := congrArg (List.take j) e2
      rw [List.take_take, Nat.min_eq_left (Nat.le_succ j), List.take_append_of_le_length (by omega), List.take_of_length_le (by omega)] at q
      exact q.symm
    refine ⟨m - 1, by omega, j + 1, by omega, ?_, ?_, ?_, ?_, ?_, ?_, ?_, ?_, os1, ?_, ?_, ?_⟩
    · exact up27 _ _ (nz (by decide)) (nz (by decide)) hz2
    · exact up17 _ _ (nz (by decide)) (nz (by decide)) (nz (by decide)) (nz (by decide)) (keepC _ tti _ hTI1)
    · exact ⟨_, _, up27 _ _ (nz (by decide)) (nz (by decide)) (sb2.extBut _ _ (nz (by decide)) q2)⟩
    · have f1 : (((j + 1 : Nat) : Int)) = (j : Nat) + 1 := by omega
      have f2 : (n : Int) - (((j : Nat) : Int) + 1) = (n : Int) - (j : Nat) - 1 := by omega
      rw [f1, f2]
      exact up17 _ _ (nz (x := 0) (y := 3) (by decide)) (nz (x := 0) (y := 2) (by decide)) (nz (x := 0) (y := 5) (by decide)) (nz (x := 0) (y := 4) (by decide)) (keepC _ rin _ y3)
    · refine ⟨us ++ [v], ca + 1, ?_, ?_⟩
      · rw [show (us ++ [v]).toArray = us.toArray.push v by simp]
        exact ho7
      · rw [← e2]
        rw [e1] at hus
        exact hus.append (.cons rv .nil)
    · exact ⟨_, hN7⟩
    · exact let ⟨o, nm, qn, e, q⟩ := gen2; ⟨o, nm, qn, k17 _ _ aC e, q⟩
    · exact noLim _ (un_but un1 hCsc hCf k17)
    · exact allBare_setGen bare1 hbare
    · refine ⟨Hn, un_but un1 hCsc hCf k17, hok_but hok1 noC k17, noC, fun _ => ?_⟩
      rw [← e2]
      exact ⟨hy1, hy2⟩
    · refine ⟨gs', setGen_at gsz, fun lt t ht => ?_⟩
      rw [hm2]
      exact kap (by show ys.length + 1 < n; omega) (t.setGen g .running) ⟨ht.os, allBare_setGen ht.bare rfl, fun b o hb e => ht.keep b o hb (k17 b o hb e), ht.own⟩
  · have ej : j = n := by omega
    subst ej
    have hle : ((j : Nat) : Int) - ((j : Nat) : Int) ≤ 0 := by omega
    have tk0 : ls.take j = ls := by rw [← hlen]; exact List.take_length
    rw [tk0] at hG hus
    obtain ⟨-, hGQ⟩ := hG hn
    refine next_zip ⟨_, hz0, rfl⟩ (zip_end0 hr.hd (zap _) hz0 (.inl rfl) hTI hTO hrg hle fun h' b hk0 ho => .inl ⟨b, rfl, ho, ?_⟩)
    have hk : ∀ b o, b ∉ cC N → s.heap.get? b = some o → h'.get? b = some o := fun b o hb q =>
      hk0 b o (fun e => hb (mem_cC.mpr (.inl e))) (fun e => hb (mem_cC.mpr (.inr (.inl e)))) (fun e => hb (mem_cC.mpr (.inr (.inr (.inl e))))) q
    have inD : N + 4 ∈ cC N := mem_cC.mpr (.inr (.inr (.inr (.inl rfl))))
    have inL : N + 5 ∈ cC N := mem_cC.mpr (.inr (.inr (.inr (.inr (.inr rfl)))))
    have hD1 : h'.get? (N + 4) = some { cls := .type "list", data := .seq us.toArray ca } := hk0 _ _ (nz (by decide)) (nz (by decide)) (nz (x := 4) (y := 0) (by decide)) hL
    have hN1 : h'.Ns (N + 5) mn := hloc.at' fun o e => hk0 _ o (nz (by decide)) (nz (by decide)) (nz (x := 5) (y := 0) (by decide)) e
    have new : ObjOk X.prog X.w (upd H' (N + 4) (.lst ls)) h' (N + 4) (.lst ls) := ⟨by rw [hlen, sizeLine_eq]; omega, us, ca, hus, hD1⟩
    have IF : Inv X pins σ (upd H' (N + 4) (.lst ls)) { s with heap := h' } :=
      I2.unpinned.call' (ch := []) hos (un_adopt (un_but hu hCsc hCf hk) I2.hok (hCsc _ inD)) (hok_adopt (hok_but hok hC0 hk) (hC0 _ inD) new) hb fun b z => (nomatch z)
    exact hRR (N + 4) (N + 5) _ mn _ IF (hGQ hlen _ (hC0 _ inD)) hN1 (I2.unpinned.fpOk (hCsc _ inL) (by rw [upd_ne (nz (by decide))]; exact hC0 _ inL))
/-- name = that comprehension, the name a local -/
theorem ps_setLz {i k : Nat} {y y1 y2 : Str} {er e : Expr} {tz : TZen} {n : Nat} {py px p1 p2 p3 pos2 pos spos tp : Pos} {kk : Nat} {scope : Scope} (hc : X.calm = true) (hN : X.N.Nodup) (hy : X.N[i]? = some y) (hyl : X.env.scope.names.lookup y = some .local)
    (hsw : swapsWith (.ListComp (.Name y2 px) [⟨.Tuple [.Name y1 p1, .Name y2 p2] kk tp, .Call (.Name "zip" p3) [er, e] [] pos2, [], 0⟩] scope pos) (some (.Name y py)) spos.line X.env = pure true)
    (hr0 : PRn X er n) (h : PZen X k e tz) (hn : 0 < n) (hn2 : n ≤ 1000) (hsm : Builtin.Range.small 0 n 1 = true) (hsz : Builtin.Range.rangeSize 0 n 1 = n)
    (hr : Room (k + 3) X.A) (hgz : Gl X "zip") (hmz : X.mg "zip" = none)
    (hsk : scope.kind = .function) (hsl : ∀ y ∈ scope.names, y.2 = .local) (hl1 : scope.names.lookup y1 = some .local) (hl2 : scope.names.lookup y2 = some .local) (huq : ∀ y ∈ scope.names, scope.names.lookup y.1 = some y.2) (hdb : (y2 == ("__debug__" : Str)) = false)
    (hs : ∀ x, foldedSetIterable (.Call (.Name "zip" p3) [er, e] [] pos2) X.env x = pure x := by intro _; rfl)
    (he2 : starEach [er, e] X.env = (false, eval er X.env) :: starEach [e] X.env := by rfl) (he3 : starEach [e] X.env = (false, eval e X.env) :: starEach [] X.env := by rfl) (hpl : (backTo pos2 (starEach [e] X.env)).any (·.1) = false := by rfl) :
    PS X (.Assign [.Name y py] (.ListComp (.Name y2 px) [⟨.Tuple [.Name y1 p1, .Name y2 p2] kk tp, .Call (.Name "zip" p3) [er, e] [] pos2, [], 0⟩] scope pos) spos) (tAsg (tLz tz n) (gName i)) := by
  refine ⟨fun pins s σ H D I h0 => ?_⟩
  rw [exec_Assign_Name_used _ _ _ _ hsw]
  refine wpAny_bind (wpAny_standAt (wpAny_bind ?_))
  show wpAny _ X.A (do let _ ← comprehension (.ListComp (.Name y2 px) [⟨.Tuple [.Name y1 p1, .Name y2 p2] kk tp, .Call (.Name "zip" p3) [er, e] [] pos2, [], 0⟩] scope pos) scope X.env (firstIterPos [⟨.Tuple [.Name y1 p1, .Name y2 p2] kk tp, .Call (.Name "zip" p3) [er, e] [] pos2, [], 0⟩] pos) (newList []) false (eval (.Call (.Name "zip" p3) [er, e] [] pos2) X.env) (some (assign (.Name y py) X.env))) _ _ s
  have h0 : tLz tz n σ H (fun x H1 => gName i x σ H1 D.nx) := h0
  refine wpAny_bind (thn (lz_comp (Qf := fun _ s' => SP X pins D .next s') I hr0 h hn hn2 hsm hsz hr hgz hmz hsk hsl hl1 hl2 huq hdb hs h0 (fun L C s' m H' I' q hn f => ?_) he2 he3 hpl) fun _ s' hq => wpAny_pure (wpAny_pure hq))
  show wpAny _ _ (assign (.Name y py) X.env (.ref L)) _ _ _
  refine wpAny_assign_Name (store_ok2 (v := V.ref L) I' hN hy (.inl hyl) rfl (fun s2 I2 ⟨a, sb, ha⟩ => ?_) (.inr hyl))
  obtain ⟨f0, f1, f2, f3, f4, f5⟩ := f
  have haC : C ≠ a := by
    rcases ha with z | z
    · rw [z]; exact f1
    · exact fun e => f4 y a z e.symm
  refine ⟨m, hn.sameBut sb haC, fun h3 sb3 => ?_⟩
  exact ⟨_, H', I2.turned (t' := s2.toks) (fun b o hb e => (sb3.2 b hb).trans e) f0 f1 f3 f4 f5, q⟩
end
end FM
-- FmGenAll
set_option maxRecDepth 100000
set_option maxHeartbeats 2000000
/-! list(g) of a generator that any consumer may wake: all its items. -/
namespace FM
open PySem PySem.Spec PyProof.Rows L2 GenW
open Sem (wp)
section
variable {P : Program} {w : World} {A : Around} {E : Value → Shared → Prop} {s : Shared}
/-- list(a generator), up to its loop -/
theorem list_gen {z : Addr} {g : Nat} {Q : Value → Shared → Prop} (hz : s.heap.IsGen z g)
    (h : ∀ (h' : Heap) (R : Result → Shared → Prop), (∃ c, h'.get? s.heap.objs.size = some (lstObj #[] c)) → (∀ b o, s.heap.get? b = some o → h'.get? b = some o) → h'.objs.size = s.heap.objs.size + 1 →
      (∀ s', Q (.ref s.heap.objs.size) s' → R (.ok (.ret .none)) s') → (∀ e s', E e s' → R (.error e) s') →
      codeAny (model P w) A.in1 (.builtin "list.extend.loop" ⟨[.ref s.heap.objs.size, .ref z, .none], []⟩) R { s with heap := h' }) :
    wpAny (model P w) A (call (.type "list") [.ref z]) Q E s := by
  have hzl : z < s.heap.objs.size := let ⟨_, _, _, e, _⟩ := hz; Heap.lt_size e
  have hSz : s.heap.objs.size ≠ z := Nat.ne_of_gt hzl
  refine callType_codes (Q₁ := fun obj s₁ => obj = .ref s.heap.objs.size ∧ s₁ = { s with heap := s.heap.push { cls := .type "list", data := .seq #[] } }) F.called_list (F.typeCall_list_1 _) F.entry_list_init
    (code_list_new _ ⟨rfl, rfl⟩) fun obj s₁ h₁ => ?_
  obtain ⟨rfl, rfl⟩ := h₁
  have hS : (s.heap.push { cls := .type "list", data := .seq #[] }).get? s.heap.objs.size = some { cls := .type "list", data := .seq #[] } := Heap.get?_push_size _ rfl
  refine ⟨⟨_, hS, rfl⟩, F.args_list_init_2 _ _, ?_⟩
  show wpAny _ A.in1.in1 (do let old ← Builtin.List.listItems (.ref s.heap.objs.size); Builtin.List.listUpdate (.ref s.heap.objs.size) (fun _ => #[]); letGo old.toList.reverse; Builtin.List.listExtendWith (.ref s.heap.objs.size) (.ref z) .none) _ _ _
  refine wpAny_bind ?_
  unfold Builtin.List.listItems
  refine wpAny_bind (wpAny_seqItems hS rfl (wpAny_pure ?_))
  show wpAny _ A.in1.in1 (updateSeq s.heap.objs.size (fun _ => #[]) >>= fun _ => letGo (#[] : Array Value).toList.reverse >>= fun _ => Builtin.List.listExtendWith (.ref s.heap.objs.size) (.ref z) .none) _ _ _
  refine wpAny_bind (wpAny_updateSeq hS rfl ?_)
  have hS2 := Heap.get?_update_self (Obj.mapSeq (fun _ => (#[] : Array Value))) hS rfl
  refine wpAny_bind (wpAny_letGo ?_)
  unfold Builtin.List.listExtendWith
  have up : ∀ (h : Heap) (f : Obj → Obj), (∀ b o, s.heap.get? b = some o → h.get? b = some o) → ∀ b o, s.heap.get? b = some o → (h.update s.heap.objs.size f).get? b = some o := fun h f q b o e =>
    (Heap.get?_update_other _ _ (Ne.symm (Nat.ne_of_lt (Heap.lt_size e)))).trans (q b o e)
  have k1 : ∀ b o, s.heap.get? b = some o → (s.heap.push { cls := .type "list", data := .seq #[] }).get? b = some o := fun b o e => Heap.get?_push_of_some _ e
  have k2 := up _ (Obj.mapSeq (fun _ => (#[] : Array Value))) k1
  have gty : ∀ {h : Heap}, (∀ b o, s.heap.get? b = some o → h.get? b = some o) → h.IsGen z g := fun {h} q => hz.keeps q
  refine wpAny_bind (wpAny_typeOf (Heap.IsGen.typeIs (s := { s with heap := _ }) (gty k2)) ?_)
  have h1 : Builtin.List.listSameRef (.ref s.heap.objs.size) (.ref z) = false := by simp [Builtin.List.listSameRef, hSz]
  have h2 : (Value.type "generator" == Value.type "list") = false := by decide
  have h3 : (Value.type "generator" == Value.type "tuple") = false := by decide
  simp only [h1, h2, h3, Bool.or_false, Bool.false_eq_true, if_false]
  refine wpAny_bind (wpAny_pyIter_gen (s := { s with heap := _ }) (gty k2) ?_)
  refine wpAny_bind (wpAny_holding ?_)
  unfold Builtin.List.listLengthHint
  refine wpAny_bind (wpAny_specialOf (Heap.IsGen.typeIs (s := { s with heap := _ }) (gty k2)) F.gen_no_len ?_)
  show wpAny _ A.in1.in1 (specialOf (Value.ref z) (Str.ofString "__length_hint__") >>= _) _ _ _
  refine wpAny_bind (wpAny_specialOf (Heap.IsGen.typeIs (s := { s with heap := _ }) (gty k2)) F.gen_no_hint ?_)
  refine wpAny_pure ?_
  show wpAny _ A.in1.in1 (rule "list.extend.makes-room" >>= fun _ => Builtin.List.listTouch (.ref s.heap.objs.size) >>= fun _ =>
    again (.builtin "list.extend.loop" ⟨[.ref s.heap.objs.size, .ref z, .none], []⟩)) _ _ _
  refine wpAny_bind (wpAny_rule ?_)
  refine wpAny_bind ?_
  show wpAny _ A.in1.in1 (updateSeq s.heap.objs.size (·.push .none) >>= fun _ => updateSeq s.heap.objs.size (·.pop)) _ _ _
  refine wpAny_bind (wpAny_updateSeq hS2 rfl ?_)
  have hS3 := Heap.get?_update_self (Obj.mapSeq (·.push Value.none)) hS2 rfl
  refine wpAny_updateSeq (hz := by seq_fits) hS3 rfl ?_
  have hS4 := Heap.get?_update_self (Obj.mapSeq (·.pop)) hS3 rfl
  have k4 := up _ (Obj.mapSeq (·.pop)) (up _ (Obj.mapSeq (·.push Value.none)) k2)
  refine wpAny_pure ⟨plainId_quiet F.plain_extend_loop _, ?_⟩
  refine h _ _ ⟨_, hS4⟩ k4 ?_ (fun s' q => ⟨rfl, q⟩) fun e s' q => q
  rw [Heap.size_update, Heap.size_update, Heap.size_update, Heap.size_push]
end
section
variable {X : Cx}
/-- an expression whose value is a generator: what each row of its items is, what its end wants -/
abbrev TZenQ := L2.St → Hp → Gd → (List V → Hp → Prop) → Prop
structure PZenQ (X : Cx) (k : Nat) (e : Expr) (tz : TZenQ) : Prop where
  run : ∀ (pins : List (Addr × Obj)) (s : Shared) (σ : L2.St) (H : Hp) (G : Gd) (Q : List V → Hp → Prop), Inv X pins σ H s → tz σ H G Q → wpAny (model X.prog X.w) X.A (eval e X.env)
    (fun u s1 => ∃ H1 sc, Inv X pins σ H1 sc ∧ ZMade X.prog X.w k X.stack H1 sc G Q (fun _ _ _ => False) u s1) X.xe s
theorem PZenQ.zen {k : Nat} {e : Expr} {tz : TZenQ} (h : PZenQ X k e tz) : PZen X k e (fun σ H G => tz σ H G fun _ _ => False) := ⟨fun pins s σ H G I q => h.run pins s σ H G _ I q⟩
theorem pzenQ_call {k : Nat} {f : Addr} {fd : FuncData} {ps : List Str} {sp : SpZ} {dvs : List V} {ds : List Value} {x : Str} {p pos : Pos} {e : Expr} {es : List Expr} {t : TA} (F : ZFn X.prog X.w X.K X.mg X.base k f fd ps sp) (hr : Room k X.A) (hg : Gl X x) (hm : X.mg x = some (.ref f)) (hk : PySem.W.keepIn X.K (.ref f) = true) (hb : Binds X.K fd ps ds) (hd : Vals dvs ds)
    (ha : PA X (e :: es) t) (hdb : (x == ("__debug__" : Str)) = false := by decide) (he : starEach (e :: es) X.env = (false, eval e X.env) :: starEach es X.env := by rfl) (hpl : (backTo pos (starEach es X.env)).any (·.1) = false := by rfl) :
    PZenQ X k (.Call (.Name x p) (e :: es) [] pos) (fun σ H G Q => t σ H fun vs H1 => sp (vs ++ dvs) H1 G Q (fun _ _ _ => False)) := by
  refine ⟨fun pins s σ H G Q I h => ?_⟩
  refine wpAny_Call_Name_kw (ld_glob I hg hm ?_ hdb)
  refine PySem.W.callWith_K (h₀ := X.base) I.ok.mod.kin hk (thn (ha.run pos pins s σ H _ I h) fun us s1 ⟨vs, H1, I1, r, q⟩ => ⟨I1.kIn, ?_⟩) he hpl
  have r2 : Vals (vs ++ dvs) (us ++ ds) := r.append hd
  have hl2 : (us ++ ds).length = ps.length := by rw [← r2.length]; exact F.len _ _ _ _ _ q
  refine wpAny_call (codeAny_mono (F.run X.A X.stack s1 H1 ⟨us, []⟩ (us ++ ds) (vs ++ dvs) G _ _ hr I1.env0 (hb s1 us I1.kIn hl2) r2 q) fun r s' hq => ?_)
  cases r with
  | error e => exact False.elim hq
  | ok fl =>
    cases fl with
    | ret u => exact ⟨H1, s1, I1, hq⟩
    | next => exact False.elim hq
    | brk => exact False.elim hq
    | cont => exact False.elim hq
/-- ahead of item j -/
structure AL (P : Program) (w : World) (A3 : Around) (outer : List Env) (H1 : Hp) (sc : Shared) (G : Gd) (Q : List V → Hp → Prop) (ls : List V) (S a : Addr) (g : Nat) (j : Nat) (s : Shared) : Prop where
  L : ∃ us c, s.heap.get? S = some (lstObj us c) ∧ Vals (ls.take j) us.toList
  gen : s.heap.IsGen a g
  lim : s.heap.NoLimit
  os : s.os = sc.os
  bare : AllBare s.gens
  go : ∃ gs, s.gens[g]? = some gs ∧ ∀ t, Nap [S] s t → gs.Goes (model P w) A3 (ZEnd P w outer H1 sc [S] a g Q fun _ _ _ => False) (ZItem P w outer H1 sc [S] a g G) (sizeLine - j) (.send .none) (t.setGen g .running)
def tListZ (tz : TZenQ) : TE := fun σ H Q => ∃ ls : List V, ls.length < sizeLine ∧ tz σ H ⟨fun ys H1 => ys = ls.take ys.length ∧ ys.length ≤ ls.length, sizeLine + 1⟩ (fun ys H1 => ys = ls ∧ ∀ D, H1 D = none → Q (.ref D) (upd H1 D (.lst ls)))
theorem pe_listZ {k : Nat} {e : Expr} {tz : TZenQ} {p pos : Pos} (h : PZenQ X k e tz) (hr : Room (k + 3) X.A) (hgl : Gl X "list") (hml : X.mg "list" = none) (he : starEach [e] X.env = (false, eval e X.env) :: starEach [] X.env := by rfl) :
    PE X (.Call (.Name "list" p) [e] [] pos) (tListZ tz) := by
  refine ⟨fun pins s σ H Q I hq => ?_⟩
  obtain ⟨ls, hlen, hq⟩ := hq
  refine Call_ (ld_blt I hgl hml PyProof.Rows.boot_list (PyProof.Rows.callWith_type1 (args_cons (thn (h.run pins s σ H _ _ I hq) fun u s2 hm => args_nil ?_) he) he rfl))
  obtain ⟨H1, sc, I2, ⟨a, g, c, rfl, m1, m2, mg, mgs, mos, mb, ml, mk, wake⟩⟩ := hm
  have ssz : sc.heap.objs.size ≤ s2.heap.objs.size := Nat.le_trans m1 (Nat.le_of_lt m2)
  refine list_gen mg fun h3 R q1 q2 q3 q4 q5 => ?_
  generalize hN : s2.heap.objs.size = S at *
  have aS : a ≠ S := Nat.ne_of_lt m2
  have cS : cStatics ≠ S := by
    have : cStatics < s2.heap.objs.size := let ⟨_, q, _⟩ := ml; q.lt
    rw [hN] at this
    exact Nat.ne_of_lt this
  have hCf : S ∉ frs X.stack := fun hm => by
    rcases List.mem_cons.mp (I2.stkSub _ hm) with z | z
    · exact absurd (Nat.lt_of_lt_of_le I2.lt ssz) (by rw [z]; exact Nat.lt_irrefl _)
    · exact I2.nofs ssz z
  have one : ∀ {b : Addr}, b ∈ [S] → b = S := fun hb => List.mem_singleton.mp hb
  suffices loop : ∀ (m j : Nat) (s : Shared), j + m = ls.length → AL X.prog X.w X.A.in1.in1.in1 X.stack H1 sc ⟨fun ys H1 => ys = ls.take ys.length ∧ ys.length ≤ ls.length, sizeLine + 1⟩ (fun ys H1 => ys = ls ∧ ∀ D, H1 D = none → Q (.ref D) (upd H1 D (.lst ls))) ls S a g j s →
      codeAny (model X.prog X.w) X.A.in1 (.builtin "list.extend.loop" ⟨[.ref S, .ref a, .none], []⟩) R s by
    obtain ⟨c5, q1⟩ := q1
    refine loop ls.length 0 _ (Nat.zero_add _) ⟨⟨#[], c5, q1, .nil⟩, mg.keeps q2, ml.keeps q2, mos, mb, _, mgs, fun t ht => ⟨rfl, ?_⟩⟩
    refine wake X.A.in1.in1.in1 [S] (t.setGen g .running) ⟨hr.hd, by have := hr.dp; show X.A.depth + 3 * k + 5 < _; omega, by have := hr.un; show X.A.units + 1 + 1 + 1 + 16 * k + 200 < _; omega⟩ I2.ok.frames
      (fun b hb => by rw [one hb]; exact Nat.le_refl _) (fun b o q => ht.keep b o (fun hb => ?_) (q2 b o q)) ht.own (ht.os.trans mos) (allBare_setGen ht.bare rfl)
    have lt := Heap.lt_size q
    rw [hN, one hb] at lt
    exact absurd lt (Nat.lt_irrefl _)
  intro m
  induction m using Nat.strongRecOn with
  | ind m ih =>
  intro j s hj ⟨⟨us, ca, hL, hus⟩, hgen, hlim, hos, hb, ⟨gs, hgs, hgo⟩⟩
  have hus' := hus.length
  have usz : us.size = j := by
    have z : us.toList.length = us.size := by simp
    have z2 : (ls.take j).length = min j ls.length := List.length_take
    omega
  have hgl : g < s.gens.size := (Array.getElem?_eq_some_iff.mp hgs).1
  obtain ⟨m', hm'⟩ : ∃ m', sizeLine - j = m' + 1 := ⟨sizeLine - j - 1, by rw [sizeLine_eq] at hlen ⊢; omega⟩
  have hm2 : sizeLine - (j + 1) = m' := by omega
  have nap : Nap [S] s s := ⟨rfl, hb, fun b o _ q => q, fun b hb => by rw [one hb]; exact ⟨_, hL, fun v q => by cases q⟩⟩
  have inS : S ∈ [S] := List.mem_singleton.mpr rfl
  refine codeAny_builtin F.entry_extend_loop ?_
  rw [Around.under_plainId F.plain_extend_loop _]
  show wpAny _ X.A.in1.in1 (pyNext (.ref a) >>= _) _ _ s
  refine wpAny_bind (wpAny_gsz (n := g + 1) hgl (next_genG (A := X.A.in1.in1) hr.hd hlim (by have := hr.dp; show X.A.depth < _; omega) hgen hgs (hgo s nap) (fun v s₁ gs' hbare hv hsz => ?_) (fun s₁ hp h' hk hsz => ?_) fun e s₁ he => ?_))
  · rw [hm'] at hv
    obtain ⟨ys, x, Hn, hylen, rv, ⟨hy1, hy2⟩, os1, bare1, gen2, un1, hok1, still, kap⟩ := hv
    have ylen : ys.length = j := by omega
    rw [List.length_append, ylen] at hy1 hy2
    have hj1 : j + 1 ≤ ls.length := hy2
    have e2 : ys ++ [x] = ls.take (j + 1) := hy1
    have hL1 : s₁.heap.get? S = some (lstObj us ca) := (still S inS).2 _ hL
    have gsz : g < s₁.gens.size := by
      have q : (s₁.setGen g gs').gens.size = s₁.gens.size := setGen_size _ _ _
      have q2 : g + 1 ≤ (s₁.setGen g gs').gens.size := hsz
      omega
    show wpAny _ X.A.in1.in1 (updateSeq S (·.push v) >>= _) _ _ _
    have room : us.size < sizeLine := by omega
    refine wpAny_bind (wpAny_updateSeq hL1 rfl (wpAny_pure ⟨plainId_quiet F.plain_extend_loop _, ?_⟩) (Nat.le_of_lt room) (by show (us.push v).size ≤ sizeLine + 1; rw [Array.size_push]; omega))
    have other : ∀ b o, b ∉ [S] → s₁.heap.get? b = some o → (s₁.heap.update S (Obj.mapSeq (·.push v))).get? b = some o := fun b o nb e =>
      (Heap.get?_update_other _ _ fun z => nb (List.mem_singleton.mpr z.symm)).trans e
    have e1 : ls.take j = ys := by
      have q := congrArg (List.take j) e2
      rw [List.take_take, Nat.min_eq_left (Nat.le_succ j), List.take_append_of_le_length (by omega), List.take_of_length_le (by omega)] at q
      exact q.symm
    have un2 := un_but un1 (fun b hb => by rw [one hb]; exact ssz) (fun b hb => by rw [one hb]; exact hCf) other
    refine ih (m - 1) (by omega) (j + 1) _ (by omega) ⟨⟨us.push v, _, Heap.get?_update_self _ hL1 rfl, ?_⟩, ?_, ?_, os1, allBare_setGen bare1 hbare, gs', setGen_at gsz, fun t ht => ?_⟩
    · rw [Array.toList_push, ← e2]
      rw [e1] at hus
      exact hus.append (.cons rv .nil)
    · exact let ⟨o, nm, qn, e, q⟩ := gen2; ⟨o, nm, qn, other _ _ (fun z => aS (one z)) e, q⟩
    · refine I2.ok.mod.nolimit.keeps fun b o eb => un2.keep b o (I2.bs b o eb).1 (I2.bs b o eb).2 (fun hm => ?_) (fun hb => (nomatch hb))
      rcases List.mem_cons.mp (I2.stkSub b hm) with z | z
      · have q1 := Heap.lt_size eb
        have q2 := Nat.le_trans I2.ok.bsz I2.ok.above
        rw [z] at q1
        exact absurd (Nat.lt_of_lt_of_le q1 q2) (Nat.lt_irrefl _)
      · exact I2.ok.nofr eb z
    · rw [hm2]
      exact kap (by show ys.length + 1 < sizeLine + 1; omega) (t.setGen g .running) ⟨ht.os, allBare_setGen ht.bare rfl, fun b o hb e => ht.keep b o hb (other b o hb e), ht.own⟩
  · obtain ⟨Hn, ys, hylen, os1, bare1, un1, hok1, still, rfl, hQ⟩ := hp
    have ylen : ys.length = j := by omega
    have tkA : ys.take j = ys := by rw [← ylen]; exact List.take_length
    rw [tkA] at hus
    have hL2 : h'.get? S = some (lstObj us ca) := hk _ _ ((still S inS).2 _ hL)
    have hn := (still S inS).1
    refine wpAny_pure (q4 _ ?_)
    have new : ObjOk X.prog X.w (upd Hn S (.lst ys)) h' S (.lst ys) := ⟨by omega, us.toList, ca, hus, by rw [hL2]⟩
    exact ⟨.ref S, _, I2.call' (ch := []) os1 (un_adopt (un1.trans (Un.kept hk)) I2.hok ssz) (hok_adopt (hok1.kept hk) hn new) (allBare_setGen bare1 rfl) fun b z => (nomatch z), rfl, hQ _ hn⟩
  · obtain ⟨hc, hg1⟩ := he
    obtain ⟨_, _, _, _, _, _, _, _, _, _, _, _, hF⟩ := hc
    exact hF.elim
end
end FM
-- FmMisc
set_option maxRecDepth 100000
set_option maxHeartbeats 1000000
/-! a tuple == (), a list in a tuple of texts, a text times a number -/
namespace FM
open PySem PySem.Spec PyProof.Rows L2 PySem.SeqAt
section
variable {X : Cx}
def rEqNil (K : PySem.W.Frag) : R2 := fun x y H Q => ∃ (p q : Addr) (xs : List V), x = .ref p ∧ y = .ref q ∧ SqT K H p xs ∧ SqT K H q [] ∧ Q (.bl xs.isEmpty) H
theorem op_eqNilT (hu : X.A.units + 64 < cLine) : OpR X (compareOp .Eq) (rEqNil X.K) := by
  intro pins s σ H x y v u Q I rx ry h
  obtain ⟨p, q, xs, rfl, rfl, h1, h2, k⟩ := h
  obtain rfl : v = .ref p := rx
  obtain rfl : u = .ref q := ry
  obtain ⟨us, v1, l1, _⟩ := I.tuple h1
  obtain ⟨vs, v2, l2, _⟩ := I.tuple h2
  have n2 : vs = [] := by cases v2; rfl
  subst n2
  have z := RcAt.tuples (A := X.A) (s := s) (e := fun _ => true) (show s.heap.IsTuple p us.toArray from l1) (show s.heap.IsTuple q #[] from l2) (by omega) (fun j a b => absurd b (Nat.not_lt_zero _))
  have e : ((List.range (min us.toArray.size (#[] : Array Value).size)).all (fun _ => true) && us.toArray.size == (#[] : Array Value).size) = xs.isEmpty := by
    cases v1 <;> rfl
  rw [e] at z
  exact z _ _ _ _ ⟨.bl _, H, I, rfl, k⟩
/-- a list is none of some texts -/
def rInT0 (K : PySem.W.Frag) : R2 := fun x y H Q => ∃ (p q : Addr) (xs : List V) (ks : List Str), x = .ref p ∧ y = .ref q ∧ SqL K H p xs ∧ SqT K H q (ks.map V.str) ∧ Q (.bl false) H
theorem op_inT0 (hu : X.A.units + 64 < cLine) : OpR X (compareOp .In) (rInT0 X.K) := by
  intro pins s σ H x y v u Q I rx ry h
  obtain ⟨p, q, xs, ks, rfl, rfl, h1, h2, k⟩ := h
  obtain rfl : v = .ref p := rx
  obtain rfl : u = .ref q := ry
  obtain ⟨us, v1, l1, _⟩ := I.list h1
  obtain ⟨vs, v2, l2, _⟩ := I.tuple h2
  have sv : StrsAre vs ks := by simpa using v2.strs
  refine SeqAt.in_tupleAt (fun _ => false) (show s.heap.IsTuple q vs.toArray from l2) (fun w hw => ?_) ⟨.bl _, H, I, rfl, ?_⟩
  · have hw' : w ∈ vs := by simpa using hw
    obtain ⟨b, t, rfl⟩ : ∃ b t, w = .str b t := by
      obtain ⟨j, hj, e⟩ := List.getElem_of_mem hw'
      have : j < ks.length := by
        have := v2.length
        simp at this
        omega
      obtain ⟨t, e2⟩ := strs_get sv j hj this
      exact ⟨_, t, by rw [← e, e2]⟩
    exact EqAt.str_list b t l1.isList (by show X.A.units + 1 < cLine; omega)
  · have e : vs.toArray.any (fun _ => false) = false := by simp
    rw [e]
    exact k
/-- a text so many times -/
def repS (z : Str) (n : Nat) : Str := if n = 0 then Str.empty else if (n == 1 || z.length == 0) = true then z else ⟨(List.replicate n z.cps).foldl (· ++ ·) #[]⟩
theorem foldl_cps (l : List (Array Nat)) : ∀ a : Array Nat, (l.foldl (· ++ ·) a).toList = a.toList ++ (l.map Array.toList).flatten := by
  induction l with
  | nil => intro a; simp
  | cons x r ih =>
    intro a
    rw [List.foldl_cons, ih]
    simp
theorem repS_cps (z : Str) (n : Nat) : (repS z n).cps.toList = (List.replicate n z.cps.toList).flatten := by
  unfold repS
  by_cases h0 : n = 0
  · subst h0
    rfl
  · rw [if_neg h0]
    by_cases h1 : (n == 1 || z.length == 0) = true
    · rw [if_pos h1]
      rw [Bool.or_eq_true] at h1
      rcases h1 with h1 | h1
      · have : n = 1 := by simpa using h1
        subst this
        simp
      · have e : z.cps.toList = [] := by
          have : z.length = 0 := by simpa using h1
          have l : z.cps.toList.length = 0 := by simpa [Str.length] using this
          exact List.length_eq_zero_iff.mp l
        rw [e]
        simp
    · rw [if_neg h1]
      show ((List.replicate n z.cps).foldl (· ++ ·) #[]).toList = _
      rw [foldl_cps]
      simp
theorem repS_length (z : Str) (n : Nat) : (repS z n).length = n * z.length := by
  have e : (repS z n).length = (repS z n).cps.toList.length := by simp [Str.length]
  rw [e, repS_cps]
  simp [Str.length]
theorem op_repS : OpR X (binaryOp .Mult) (fun x y H Q => ∃ (z : Str) (n : Nat), x = .str z ∧ y = .int (n : Nat) ∧ z.length ≤ 1000 ∧ n ≤ 1000 ∧ Q (.str (repS z n)) H) := by
  intro pins s σ H x y v u Q I rx ry h
  obtain ⟨z, n, rfl, rfl, hz, hn, k⟩ := h
  obtain ⟨t, rfl⟩ := rx
  obtain ⟨t', rfl⟩ := ry
  have hb : z.length * n ≤ 1000000 := Nat.mul_le_mul hz hn
  refine P.mul_str ?_ (fun h1 _ => ?_) (fun _ _ => ?_) ?_
  · have h1 : ¬ ((n : Int) < -(2 ^ 63)) := by omega
    have h2 : ¬ ((n : Int) ≥ 2 ^ 63) := by omega
    rw [decide_eq_false h1, decide_eq_false h2]
    rfl
  · have hd : (1000 : Int) ≤ (2 ^ 63 - 1) / (n : Int) := by
      refine (Int.le_ediv_iff_mul_le (by omega)).mpr ?_
      omega
    omega
  · have : Builtin.Str.tooLong (z.length * (n : Int).toNat) = false := by
      rw [Int.toNat_natCast]
      unfold Builtin.Str.tooLong
      first
        | exact decide_eq_false (by rw [sizeLine_eq]; omega)
        | (simp; omega)
    exact this
  · unfold repS at k
    have fin : ∀ y : Str, y.length ≤ 1000000 → Q (.str y) H → (Made.str y).post (EP X pins σ Q) s := fun y hy q =>
      ⟨by rw [sizeLine_eq]; omega, .str y, H, I.tok _, ⟨_, rfl⟩, q⟩
    have hlen : (repS z n).length ≤ 1000000 := by rw [repS_length, Nat.mul_comm]; exact hb
    unfold repS at hlen
    by_cases h0 : n = 0
    · subst h0
      rw [if_pos (by decide)]
      rw [if_pos rfl] at k
      exact fin _ (by decide) k
    · rw [if_neg (by omega)]
      rw [if_neg h0] at hlen
      rw [if_neg h0] at k
      have e1 : (((n : Nat) : Int) == 1 || z.length == 0) = (n == 1 || z.length == 0) := by
        have : (((n : Nat) : Int) == 1) = (n == 1) := by
          rw [Bool.eq_iff_iff]
          simp
          omega
        rw [this]
      rw [e1]
      by_cases h1 : (n == 1 || z.length == 0) = true
      · rw [if_pos h1] at k ⊢
        exact ⟨.str z, H, I, ⟨_, rfl⟩, k⟩
      · rw [if_neg h1] at k ⊢
        rw [if_neg h1] at hlen
        rw [Int.toNat_natCast]
        exact fin _ hlen k
end
end FM
-- FmNil
set_option maxRecDepth 100000
set_option maxHeartbeats 1000000
/-! a list compared with [] -/
namespace FM
open PySem PySem.Spec PyProof.Rows L2 PySem.SeqAt
section
variable {X : Cx}
def rNilL (K : PySem.W.Frag) (neg : Bool) : R2 := fun x y H Q => ∃ (p q : Addr) (xs : List V), x = .ref p ∧ y = .ref q ∧ SqL K H p xs ∧ SqL K H q [] ∧ Q (.bl (if neg = true then !xs.isEmpty else xs.isEmpty)) H
theorem op_eqNilL (hu : X.A.units + 64 < cLine) : OpR X (compareOp .Eq) (rNilL X.K false) := by
  intro pins s σ H x y v u Q I rx ry h
  obtain ⟨p, q, xs, rfl, rfl, h1, h2, k⟩ := h
  obtain rfl : v = .ref p := rx
  obtain rfl : u = .ref q := ry
  obtain ⟨us, v1, l1, _⟩ := I.list h1
  obtain ⟨vs, v2, l2, _⟩ := I.list h2
  have n2 : vs = [] := by cases v2; rfl
  subst n2
  have hb : RcAt X.A s (.ref p) (.ref q) xs.isEmpty := by
    cases v1 with
    | nil =>
      exact RcAt.lists (s := s) (e := fun _ => true) l1.isList l2.isList rfl (show X.A.units < cLine by omega) (fun j a b => absurd a (Nat.not_lt_zero _))
    | cons r rr =>
      exact RcAt.lists_lengths l1.isList l2.isList rfl (by omega)
  exact hb _ _ _ _ ⟨.bl _, H, I, rfl, k⟩
theorem op_neNilL (hu : X.A.units + 64 < cLine) : OpR X (compareOp .NotEq) (rNilL X.K true) := by
  intro pins s σ H x y v u Q I rx ry h
  obtain ⟨p, q, xs, rfl, rfl, h1, h2, k⟩ := h
  obtain rfl : v = .ref p := rx
  obtain rfl : u = .ref q := ry
  obtain ⟨us, v1, l1, _⟩ := I.list h1
  obtain ⟨vs, v2, l2, _⟩ := I.list h2
  have n2 : vs = [] := by cases v2; rfl
  subst n2
  have hb : RcNeAt X.A s (.ref p) (.ref q) (!xs.isEmpty) := by
    cases v1 with
    | nil =>
      exact RcNeAt.lists (s := s) (e := fun _ => true) l1.isList l2.isList rfl (show X.A.units < cLine by omega) (fun j a b => absurd a (Nat.not_lt_zero _))
    | cons r rr =>
      exact RcNeAt.lists_lengths l1.isList l2.isList rfl (by omega)
  exact hb _ _ _ _ ⟨.bl _, H, I, rfl, k⟩
end
end FM
-- FmDict
set_option maxRecDepth 100000
set_option maxHeartbeats 4000000
/-! A dict display of one pair, whose key is a tuple: {(0, 0): v}. -/
namespace FM
open PySem PySem.Spec PyProof.Rows L2
def tDisT (trs : List (TE × TE)) : TE := fun σ H Q => ∀ p, H p = none → tPairs trs σ (upd H p (.dT [])) fun ps H2 =>
  H2 p = some (.dT []) ∧ ∃ (ks : List L2.Key) (t : Addr) (v : V), ps = [(.ref t, v)] ∧ H2 t = some (.tup (ks.map kV)) ∧ Q (.ref p) (upd H2 p (.dT [(ks, v)]))
theorem pe_disT {X : Cx} {pos : Pos} {k ve : Expr} {trs : List (TE × TE)} (hu : X.A.units + 1 < cLine) (h : PPs X pos [some k] [ve] trs) : PE X (.Dict [some k] [ve] pos) (tDisT trs) := by
  refine ⟨fun pins s σ H Q I q => ?_⟩
  let a : Addr := s.heap.objs.size
  have fr : H a = none := I.hok.fresh (Nat.le_refl _)
  have J := I.laid (t' := s.toks) (a := a) (o := .dT []) (fun _ _ z => Heap.get?_push_of_some { cls := .type "dict", data := .dict #[] } z) (Nat.le_refl _) (dt_empty s.heap I.big)
  have room : (tupleKind (mixKind X.prog X.w)).room X.A := Nat.lt_of_succ_lt hu
  rw [arm_eval_Dict, zip_pairTrees [some k] [ve] X.env pos rfl rfl, dictDisplay_pairs _ (by intro z; cases z) (by show 1 < 17; decide)]
  refine wpAny_bind (wpAny_standAt (wpAny_bind (wpAny_subDictH room (by show 1 ≤ 15; decide) ?_)))
  refine thn (h.run pins _ σ _ _ J (q a fr)) fun ws s2 z => ?_
  obtain ⟨ps, H2, I2, rel, e, ks, t, v, rfl, et, q2⟩ := z
  cases rel with
  | cons r r0 =>
    cases r0
    rename_i b
    obtain ⟨b1, b2⟩ := b
    obtain ⟨rk, rv⟩ := r
    cases (show b1 = Value.ref t from rk)
    obtain ⟨_, hd, xs, x0, dd⟩ := dt_of I2.hok e
    cases x0
    refine ⟨[(ks, t, b2)], ⟨rfl, rfl, key_of I2.hok et, trivial⟩, dd, fun h' tk dd' hs => wpAny_pure ?_⟩
    obtain ⟨ob, es, ep, g1, g2, g3, g4, _, g5⟩ := dd'
    have ne : t ≠ a := ne_of et e (fun z => nomatch z)
    have new : ObjOk X.prog X.w (upd H2 a (.dT [(ks, v)])) h' a (.dT [(ks, v)]) :=
      ⟨by show 1 ≤ sizeLine; decide, hd, [(ks, t, b2)], .cons ⟨rfl, (upd_ne ne).trans et, rv⟩ .nil, ob, es, ep, g1, g2, g3, g4, g5⟩
    exact ⟨.ref a, _, d_write I2 (by rw [e]; exact True.intro) hs ⟨ob, g1⟩ new, rfl, q2⟩
end FM
-- FmRepr
set_option maxRecDepth 100000
set_option maxHeartbeats 4000000
/-! Plain data of the abstract heap, dicts of one pair among it, and their repr. -/
namespace FM
open PySem PySem.Spec PyProof.Rows L2
def kD : L2.Key → PyData
  | .inl i => .int i
  | .inr x => .str x
mutual
inductive DV (H : Hp) : V → PyData → List Addr → Prop
  | non : DV H .non .none []
  | bl (b : Bool) : DV H (.bl b) (.bool b) []
  | int (i : Int) : DV H (.int i) (.int i) []
  | str (x : Str) : DV H (.str x) (.str x) []
  | lst {a : Addr} {xs : List V} {ds : List PyData} {as : List Addr} : H a = some (.lst xs) → DVs H xs ds as → DV H (.ref a) (.list ds) (a :: as)
  | tup {a : Addr} {xs : List V} {ds : List PyData} {as : List Addr} : H a = some (.tup xs) → DVs H xs ds as → DV H (.ref a) (.tuple ds) as
  | dS {a : Addr} {k : Str} {v : V} {d : PyData} {as : List Addr} : H a = some (.dK [(.inr k, v)]) → DV H v d as → DV H (.ref a) (.dict [(.str k, d)]) (a :: ([] ++ []) ++ (as ++ []))
  | dT {a : Addr} {ks : List L2.Key} {v : V} {d : PyData} {as : List Addr} : H a = some (.dT [(ks, v)]) → DV H v d as → DV H (.ref a) (.dict [(.tuple (ks.map kD), d)]) (a :: ([] ++ []) ++ (as ++ []))
  | dE {a : Addr} : H a = some (.dK []) → DV H (.ref a) (.dict []) (a :: [] ++ [])
inductive DVs (H : Hp) : List V → List PyData → List Addr → Prop
  | nil : DVs H [] [] []
  | cons {v : V} {vs : List V} {d : PyData} {ds : List PyData} {as bs : List Addr} : DV H v d as → DVs H vs ds bs → DVs H (v :: vs) (d :: ds) (as ++ bs)
end
theorem reads_keys {P : Program} {w : World} {h : Heap} : ∀ {ks : List L2.Key} {its : List Value}, ItemsAre (mixKind P w) ks its → ReadsAll h its (ks.map kD) []
  | _, _, .nil => .nil
  | _, _, .cons (k := k) e t => by
    refine .cons (as := []) (bs := []) ?_ (reads_keys t)
    rcases keyIs_shape e with ⟨i, u, rfl, rfl⟩ | ⟨x, u, rfl, rfl⟩
    · exact .int i u
    · exact .str x u
mutual
theorem DV.reads {P : Program} {w : World} {H : Hp} {h : Heap} (ok : HOk P w H h) : ∀ {v : V} {d : PyData} {as : List Addr} {u : Value}, DV H v d as → RelV v u → Reads h u d as
  | _, _, _, _, .non, r => by cases r; exact .none
  | _, _, _, _, .bl b, r => by cases r; exact .bool b
  | _, _, _, _, .int i, ⟨t, r⟩ => by subst r; exact .int i t
  | _, _, _, _, .str x, ⟨t, r⟩ => by subst r; exact .str x t
  | _, _, _, _, .lst (a := a) e q, r => by
    cases r
    obtain ⟨_, its, n, rel, g⟩ := ok a _ e
    exact .list g rfl rfl (DVs.reads ok q rel)
  | _, _, _, _, .tup (a := a) e q, r => by
    cases r
    obtain ⟨_, its, rel, ob, g, c, n, g2⟩ := ok a _ e
    exact .tuple g c g2 (DVs.reads ok q rel)
  | _, _, _, _, .dS (a := a) (k := kk) (v := v0) e q, r => by
    cases r
    obtain ⟨_, _, vs, rel, ob, es, ep, g, gc, gd, gk, gp, _⟩ := dk_of ok e
    cases rel with
    | cons r1 r0 =>
      cases r0
      generalize hes : es.toList = el at gp
      cases gp with
      | cons hk hv g0 =>
        cases g0
        refine .dict g gc.1 gd ?_ ?_
        · rw [hes]
          refine .cons (as := []) (bs := []) ?_ .nil
          rename_i bb _ en
          have hk2 : keyIs (.inr kk) en.key = true := by
            have e2 : (Sum.inr kk : L2.Key) = bb.1 := r1.1
            rw [e2]
            exact hk
          show Reads h en.key (.str kk) []
          rcases keyIs_shape hk2 with ⟨i, t, ek, e2⟩ | ⟨x, t, ek, e2⟩
          · exact nomatch ek
          · rw [e2, Sum.inr.inj ek]
            exact .str x t
        · rw [hes]
          refine .cons (bs := []) ?_ .nil
          refine DV.reads ok q ?_
          rename_i bb _ en
          show L2.RelV v0 en.val
          rw [hv]
          exact r1.2
  | _, _, _, _, .dE (a := a) e, r => by
    cases r
    obtain ⟨_, _, vs, rel, ob, es, ep, g, gc, gd, gk, gp, _⟩ := dk_of ok e
    cases rel
    generalize hes : es.toList = el at gp
    cases gp
    refine .dict g gc.1 gd ?_ ?_
    · rw [hes]
      exact .nil
    · rw [hes]
      exact .nil
  | _, _, _, _, .dT (a := a) e q, r => by
    cases r
    obtain ⟨_, _, xs, rel, ob, es, ep, g, gc, gd, ge, gi, _⟩ := dt_of ok e
    cases rel with
    | cons r1 r0 =>
      cases r0
      refine .dict g gc.1 gd ?_ ?_
      · rw [ge]
        refine .cons (as := []) (bs := []) ?_ .nil
        obtain ⟨o2, its, n, g2, g3, g4, g5⟩ := gi _ List.mem_cons_self
        refine .tuple g2 g3 g4 ?_
        have e2 := r1.1
        simp only at e2
        rw [e2]
        exact reads_keys g5
      · rw [ge]
        refine .cons (bs := []) ?_ .nil
        exact DV.reads ok q r1.2.2
theorem DVs.reads {P : Program} {w : World} {H : Hp} {h : Heap} (ok : HOk P w H h) : ∀ {vs : List V} {ds : List PyData} {as : List Addr} {us : List Value}, DVs H vs ds as → Vals vs us → ReadsAll h us ds as
  | _, _, _, _, .nil, .nil => .nil
  | _, _, _, _, .cons x q, .cons r t => .cons (DV.reads ok x r) (DVs.reads ok q t)
end
mutual
theorem DV.there {H : Hp} : ∀ {v : V} {d : PyData} {as : List Addr}, DV H v d as → ∀ a ∈ as, ∃ o, H a = some o
  | _, _, _, .non, _, h => nomatch h
  | _, _, _, .bl _, _, h => nomatch h
  | _, _, _, .int _, _, h => nomatch h
  | _, _, _, .str _, _, h => nomatch h
  | _, _, _, .lst e q, b, h => by
    rcases List.mem_cons.mp h with h | h
    · rw [h]; exact ⟨_, e⟩
    · exact DVs.there q b h
  | _, _, _, .tup _ q, b, h => DVs.there q b h
  | _, _, _, .dS (a := a) (as := as) e q, b, h => by
    have h2 : b = a ∨ b ∈ as := by simpa using h
    rcases h2 with h | h
    · rw [h]; exact ⟨_, e⟩
    · exact DV.there q b h
  | _, _, _, .dT (a := a) (as := as) e q, b, h => by
    have h2 : b = a ∨ b ∈ as := by simpa using h
    rcases h2 with h | h
    · rw [h]; exact ⟨_, e⟩
    · exact DV.there q b h
  | _, _, _, .dE (a := a) e, b, h => by
    have h2 : b = a := by simpa using h
    rw [h2]; exact ⟨_, e⟩
theorem DVs.there {H : Hp} : ∀ {vs : List V} {ds : List PyData} {as : List Addr}, DVs H vs ds as → ∀ a ∈ as, ∃ o, H a = some o
  | _, _, _, .nil, _, h => nomatch h
  | _, _, _, .cons x q, b, h => by
    rcases List.mem_append.mp h with h | h
    · exact DV.there x b h
    · exact DVs.there q b h
end
mutual
theorem DV.same {H H' : Hp} (S : Same H H') : ∀ {v : V} {d : PyData} {as : List Addr}, DV H v d as → DV H' v d as
  | _, _, _, .non => .non
  | _, _, _, .bl b => .bl b
  | _, _, _, .int i => .int i
  | _, _, _, .str x => .str x
  | _, _, _, .lst e q => .lst (S _ _ e) (DVs.same S q)
  | _, _, _, .tup e q => .tup (S _ _ e) (DVs.same S q)
  | _, _, _, .dS e q => .dS (S _ _ e) (DV.same S q)
  | _, _, _, .dT e q => .dT (S _ _ e) (DV.same S q)
  | _, _, _, .dE e => .dE (S _ _ e)
theorem DVs.same {H H' : Hp} (S : Same H H') : ∀ {vs : List V} {ds : List PyData} {as : List Addr}, DVs H vs ds as → DVs H' vs ds as
  | _, _, _, .nil => .nil
  | _, _, _, .cons x q => .cons (DV.same S x) (DVs.same S q)
end
/-- repr of a list -/
theorem call_reprD {X : Cx} (hg : X.A.guards = some []) (hu : X.A.units + 20 < cLine) (hs : ∃ o, X.base.get? sysModules = some o) :
    CallR X (.builtin "repr") (fun xs H Q => ∃ (p : Addr) (d : PyData) (as : List Addr), xs = [.ref p] ∧ DV H (.ref p) d as ∧ d.showable = true ∧ d.depth ≤ 10 ∧ d.shown.length ≤ sizeLine ∧ Q (.str d.shown) H) := by
  intro pins s σ H xs us Q I r h
  obtain ⟨p, d, as, rfl, hd, h1, h2, h3, q⟩ := h
  obtain ⟨u, rfl, r1⟩ := vals1 r
  cases r1
  have R : Reads s.heap (.ref p) d as := hd.reads I.hok rfl
  have no : sysModules ∉ as := fun hm => by
    obtain ⟨o, ho⟩ := hd.there _ hm
    obtain ⟨ob, hk⟩ := hs
    rw [(I.bs _ _ hk).2] at ho
    cases ho
  exact repr_of_reads' R h1 (fun _ => no) hg (by omega) (fun _ _ z => z) (fun h' u tk kp => ⟨.str d.shown, H, I.kept kp, ⟨u, rfl⟩, q⟩) h3
/-- repr of any such value -/
theorem call_reprAny {X : Cx} (hg : X.A.guards = some []) (hu : X.A.units + 20 < cLine) (hs : ∃ o, X.base.get? sysModules = some o) :
    CallR X (.builtin "repr") (fun xs H Q => ∃ (x : V) (d : PyData) (as : List Addr), xs = [x] ∧ DV H x d as ∧ d.showable = true ∧ d.depth ≤ 10 ∧ d.shown.length ≤ sizeLine ∧ Q (.str d.shown) H) := by
  intro pins s σ H xs us Q I r h
  obtain ⟨x, d, as, rfl, hd, h1, h2, h3, q⟩ := h
  have whole := call_reprD hg hu hs pins s σ H
  cases hd with
  | non =>
    obtain ⟨u, rfl, r1⟩ := vals1 r
    cases r1
    exact PySem.P.repr_of_none ⟨.str _, H, I.tok _, ⟨_, rfl⟩, q⟩
  | bl b =>
    obtain ⟨u, rfl, r1⟩ := vals1 r
    cases r1
    cases b
    · exact PySem.P.repr_of_bool ⟨.str _, H, I.tok _, ⟨_, rfl⟩, q⟩
    · exact PySem.P.repr_of_bool ⟨.str _, H, I.tok _, ⟨_, rfl⟩, q⟩
  | int i =>
    obtain ⟨u, rfl, t, rfl⟩ := vals1 r
    exact PySem.P.repr_of_int (of_decide_eq_true h1) ⟨.str _, H, I.tok _, ⟨_, rfl⟩, q⟩
  | str z =>
    obtain ⟨u, rfl, t, rfl⟩ := vals1 r
    exact PySem.P.repr_of_str ⟨.str _, H, I.tok _, ⟨_, rfl⟩, q⟩ (hsz := h3)
  | lst e t => exact whole _ us Q I r ⟨_, _, _, rfl, .lst e t, h1, h2, h3, q⟩
  | tup e t => exact whole _ us Q I r ⟨_, _, _, rfl, .tup e t, h1, h2, h3, q⟩
  | dS e t => exact whole _ us Q I r ⟨_, _, _, rfl, .dS e t, h1, h2, h3, q⟩
  | dT e t => exact whole _ us Q I r ⟨_, _, _, rfl, .dT e t, h1, h2, h3, q⟩
  | dE e => exact whole _ us Q I r ⟨_, _, _, rfl, .dE e, h1, h2, h3, q⟩
end FM
-- K1Top
set_option maxRecDepth 100000
set_option maxHeartbeats 4000000
namespace K0
open PySem L2 FM He
abbrev sThrow : Stmt := top 33
abbrev sStart : Stmt := top 32
abbrev sPick : Stmt := top 34
abbrev s_is_integer : Stmt := top 1
theorem sc_is_integer : FnScope ["value"] ["value"] (defScope s_is_integer) := ⟨rfl, rfl, rfl, by decide +kernel, rfl, by decide +kernel, by decide +kernel⟩
abbrev s_is_below : Stmt := top 2
theorem sc_is_below : FnScope ["value", "limit"] ["value", "limit"] (defScope s_is_below) := ⟨rfl, rfl, rfl, by decide +kernel, rfl, by decide +kernel, by decide +kernel⟩
abbrev s_is_tuple_of : Stmt := top 3
theorem sc_is_tuple_of : FnScope ["value", "many"] ["value", "many"] (defScope s_is_tuple_of) := ⟨rfl, rfl, rfl, by decide +kernel, rfl, by decide +kernel, by decide +kernel⟩
abbrev s_is_word : Stmt := top 13
theorem sc_is_word : FnScope ["value"] ["value"] (defScope s_is_word) := ⟨rfl, rfl, rfl, by decide +kernel, rfl, by decide +kernel, by decide +kernel⟩
abbrev s_is_text : Stmt := top 14
theorem sc_is_text : FnScope ["value"] ["value"] (defScope s_is_text) := ⟨rfl, rfl, rfl, by decide +kernel, rfl, by decide +kernel, by decide +kernel⟩
abbrev s_is_letters : Stmt := top 15
theorem sc_is_letters : FnScope ["value"] ["value"] (defScope s_is_letters) := ⟨rfl, rfl, rfl, by decide +kernel, rfl, by decide +kernel, by decide +kernel⟩
abbrev s_is_delay : Stmt := top 16
theorem sc_is_delay : FnScope ["value", "word"] ["value"] (defScope s_is_delay) := ⟨rfl, rfl, rfl, by decide +kernel, rfl, by decide +kernel, by decide +kernel⟩
abbrev s_common_beginning : Stmt := top 17
theorem sc_common_beginning : FnScope ["words", "word"] ["words"] (defScope s_common_beginning) := ⟨rfl, rfl, rfl, by decide +kernel, rfl, by decide +kernel, by decide +kernel⟩
abbrev s_delay : Stmt := top 18
theorem sc_delay : FnScope ["word", "other"] ["word", "other"] (defScope s_delay) := ⟨rfl, rfl, rfl, by decide +kernel, rfl, by decide +kernel, by decide +kernel⟩
abbrev s_distance : Stmt := top 19
theorem sc_distance : FnScope ["word", "other", "rest", "other_rest"] ["word", "other"] (defScope s_distance) := ⟨rfl, rfl, rfl, by decide +kernel, rfl, by decide +kernel, by decide +kernel⟩
abbrev s_led_on : Stmt := top 20
theorem sc_led_on : FnScope ["delay", "word", "other"] ["delay", "word", "other"] (defScope s_led_on) := ⟨rfl, rfl, rfl, by decide +kernel, rfl, by decide +kernel, by decide +kernel⟩
abbrev s_ahead_by : Stmt := top 21
theorem sc_ahead_by : FnScope ["delay"] ["delay"] (defScope s_ahead_by) := ⟨rfl, rfl, rfl, by decide +kernel, rfl, by decide +kernel, by decide +kernel⟩
abbrev s_texts : Stmt := top 22
theorem sc_texts : GScope ["letters", "length", "size", "waiting", "text", "letter"] ["letters", "length"] (defScope s_texts) := ⟨rfl, rfl, rfl, by decide +kernel, rfl, by decide +kernel, by decide +kernel⟩
abbrev s_in_order : Stmt := top 23
theorem sc_in_order : FnScope ["texts", "text"] ["texts"] (defScope s_in_order) := ⟨rfl, rfl, rfl, by decide +kernel, rfl, by decide +kernel, by decide +kernel⟩
abbrev s_sorted_words : Stmt := top 24
theorem sc_sorted_words : FnScope ["words"] ["words"] (defScope s_sorted_words) := ⟨rfl, rfl, rfl, by decide +kernel, rfl, by decide +kernel, by decide +kernel⟩
abbrev s_shared_beginning : Stmt := top 25
theorem sc_shared_beginning : FnScope ["words", "found", "word"] ["words"] (defScope s_shared_beginning) := ⟨rfl, rfl, rfl, by decide +kernel, rfl, by decide +kernel, by decide +kernel⟩
abbrev s_left_over : Stmt := top 26
theorem sc_left_over : FnScope ["word", "other", "many"] ["word", "other"] (defScope s_left_over) := ⟨rfl, rfl, rfl, by decide +kernel, rfl, by decide +kernel, by decide +kernel⟩
abbrev s_check_length : Stmt := top 27
theorem sc_check_length : FnScope ["length"] ["length"] (defScope s_check_length) := ⟨rfl, rfl, rfl, by decide +kernel, rfl, by decide +kernel, by decide +kernel⟩
abbrev s__shared : Stmt := top 28
theorem sc__shared : FnScope ["word", "other", "most", "many", "letter", "against"] ["word", "other"] (defScope s__shared) := ⟨rfl, rfl, rfl, by decide +kernel, rfl, by decide +kernel, by decide +kernel⟩
abbrev s__check_word : Stmt := top 29
theorem sc__check_word : FnScope ["value"] ["value"] (defScope s__check_word) := ⟨rfl, rfl, rfl, by decide +kernel, rfl, by decide +kernel, by decide +kernel⟩
abbrev s__check_delay : Stmt := top 30
theorem sc__check_delay : FnScope ["value"] ["value"] (defScope s__check_delay) := ⟨rfl, rfl, rfl, by decide +kernel, rfl, by decide +kernel, by decide +kernel⟩
abbrev s__law_shuffled : Stmt := top 35
theorem sc__law_shuffled : FnScope ["_law_bag", "_law_items", "_law_rest_here", "_law_turn"] ["_law_bag", "_law_items"] (defScope s__law_shuffled) := ⟨rfl, rfl, rfl, by decide +kernel, rfl, by decide +kernel, by decide +kernel⟩
abbrev s__law_drawn_word : Stmt := top 36
theorem sc__law_drawn_word : FnScope ["_law_bag", "_law_signs", "_law_most", "_law_turn"] ["_law_bag", "_law_signs", "_law_most"] (defScope s__law_drawn_word) := ⟨rfl, rfl, rfl, by decide +kernel, rfl, by decide +kernel, by decide +kernel⟩
abbrev s__law_ordered : Stmt := top 37
theorem sc__law_ordered : FnScope ["_law_words", "_law_some", "_law_word", "_law_size"] ["_law_words"] (defScope s__law_ordered) := ⟨rfl, rfl, rfl, by decide +kernel, rfl, by decide +kernel, by decide +kernel⟩
abbrev s__law_all_texts : Stmt := top 38
theorem sc__law_all_texts : FnScope ["_law_signs", "_law_most", "_law_found", "_law_line", "_law_turn", "_law_more_here", "_law_one", "_law_sign"] ["_law_signs", "_law_most"] (defScope s__law_all_texts) := ⟨rfl, rfl, rfl, by decide +kernel, rfl, by decide +kernel, by decide +kernel⟩
abbrev s__law_common : Stmt := top 39
theorem sc__law_common : FnScope ["_law_words", "_law_found", "_law_word", "_law_size"] ["_law_words"] (defScope s__law_common) := ⟨rfl, rfl, rfl, by decide +kernel, rfl, by decide +kernel, by decide +kernel⟩
abbrev s__law_gap_of : Stmt := top 40
theorem sc__law_gap_of : FnScope ["_law_one", "_law_other", "_law_size"] ["_law_one", "_law_other"] (defScope s__law_gap_of) := ⟨rfl, rfl, rfl, by decide +kernel, rfl, by decide +kernel, by decide +kernel⟩
abbrev s__law_is_word : Stmt := top 41
theorem sc__law_is_word : FnScope ["_law_value", "_law_sign"] ["_law_value"] (defScope s__law_is_word) := ⟨rfl, rfl, rfl, by decide +kernel, rfl, by decide +kernel, by decide +kernel⟩
abbrev s__law_is_gap : Stmt := top 42
theorem sc__law_is_gap : FnScope ["_law_value"] ["_law_value"] (defScope s__law_is_gap) := ⟨rfl, rfl, rfl, by decide +kernel, rfl, by decide +kernel, by decide +kernel⟩
abbrev s__law_drawn_words : Stmt := top 43
theorem sc__law_drawn_words : FnScope ["_law_bag", "_law_signs", "_law_found", "_law_turn", "_law_one", "_law_front"] ["_law_bag"] (defScope s__law_drawn_words) := ⟨rfl, rfl, rfl, by decide +kernel, rfl, by decide +kernel, by decide +kernel⟩
abbrev s__law_common_right : Stmt := top 44
theorem sc__law_common_right : FnScope ["_law_words", "_law_due", "_law_told"] ["_law_words"] (defScope s__law_common_right) := ⟨rfl, rfl, rfl, by decide +kernel, rfl, by decide +kernel, by decide +kernel⟩
abbrev s__law_delays_right : Stmt := top 45
theorem sc__law_delays_right : FnScope ["_law_one", "_law_other", "_law_more", "_law_last", "_law_due", "_law_led"] ["_law_one", "_law_other", "_law_more", "_law_last"] (defScope s__law_delays_right) := ⟨rfl, rfl, rfl, by decide +kernel, rfl, by decide +kernel, by decide +kernel⟩
abbrev s__law_places_right : Stmt := top 46
theorem sc__law_places_right : FnScope ["_law_words", "_law_one", "_law_other", "_law_size", "_law_way"] ["_law_words"] (defScope s__law_places_right) := ⟨rfl, rfl, rfl, by decide +kernel, rfl, by decide +kernel, by decide +kernel⟩
abbrev s__law_judged_right : Stmt := top 47
theorem sc__law_judged_right : FnScope ["_law_bag", "_law_words", "_law_some", "_law_value", "_law_turn", "_law_due", "_law_pairs"] ["_law_bag", "_law_words"] (defScope s__law_judged_right) := ⟨rfl, rfl, rfl, by decide +kernel, rfl, by decide +kernel, by decide +kernel⟩
abbrev s__law_listed_right : Stmt := top 48
theorem sc__law_listed_right : FnScope ["_law_bag", "_law_words", "_law_signs", "_law_size", "_law_due", "_law_first", "_law_near", "_law_number", "_law_one", "_law_every", "_law_some"] ["_law_bag", "_law_words"] (defScope s__law_listed_right) := ⟨rfl, rfl, rfl, by decide +kernel, rfl, by decide +kernel, by decide +kernel⟩
abbrev s_law : Stmt := top 49
theorem sc_law : FnScope ["_law_script", "_law_at", "_law_bag", "_law_turn", "_law_words", "_law_one", "_law_other", "_law_more", "_law_last", "_law_place", "_law_told", "_law_long"] ["_law_script"] (defScope s_law) := ⟨rfl, rfl, rfl, by decide +kernel, rfl, by decide +kernel, by decide +kernel⟩
structure TP (K : PySem.W.Frag) (mg : Str → Option Value) : Prop extends TE K mg where
  c__ALPHABET : ∃ u, mg "_ALPHABET" = some u ∧ RelV (.str alpha) u
  c_MAX_TEXT : ∃ u, mg "MAX_TEXT" = some u ∧ RelV (.int 60) u
  c__MOST_LETTERS : ∃ u, mg "_MOST_LETTERS" = some u ∧ RelV (.int 4) u
  b_str : mg "str" = none
  b_tuple : mg "tuple" = none
  b_len : mg "len" = none
  b_all : mg "all" = none
  b_bool : mg "bool" = none
  b_repr : mg "repr" = none
  b_set : mg "set" = none
  b_sorted : mg "sorted" = none
  b_list : mg "list" = none
  b_int : mg "int" = none
  b_abs : mg "abs" = none
  b_max : mg "max" = none
  b_min : mg "min" = none
  b_zip : mg "zip" = none
  f_is_integer : ∃ fd, FnP K "is_integer" s_is_integer (ga K "is_integer") fd
  g_is_integer : mg "is_integer" = some (.ref (ga K "is_integer"))
  f_is_below : ∃ fd, FnP K "is_below" s_is_below (ga K "is_below") fd
  g_is_below : mg "is_below" = some (.ref (ga K "is_below"))
  f_is_tuple_of : ∃ fd, FnP K "is_tuple_of" s_is_tuple_of (ga K "is_tuple_of") fd
  g_is_tuple_of : mg "is_tuple_of" = some (.ref (ga K "is_tuple_of"))
  f_is_word : ∃ fd, FnP K "is_word" s_is_word (ga K "is_word") fd
  g_is_word : mg "is_word" = some (.ref (ga K "is_word"))
  f_is_text : ∃ fd, FnP K "is_text" s_is_text (ga K "is_text") fd
  g_is_text : mg "is_text" = some (.ref (ga K "is_text"))
  f_is_letters : ∃ fd, FnP K "is_letters" s_is_letters (ga K "is_letters") fd
  g_is_letters : mg "is_letters" = some (.ref (ga K "is_letters"))
  f_is_delay : ∃ fd, FnP K "is_delay" s_is_delay (ga K "is_delay") fd
  g_is_delay : mg "is_delay" = some (.ref (ga K "is_delay"))
  f_common_beginning : ∃ fd, FnP K "common_beginning" s_common_beginning (ga K "common_beginning") fd
  g_common_beginning : mg "common_beginning" = some (.ref (ga K "common_beginning"))
  f_delay : ∃ fd, FnP K "delay" s_delay (ga K "delay") fd
  g_delay : mg "delay" = some (.ref (ga K "delay"))
  f_distance : ∃ fd, FnP K "distance" s_distance (ga K "distance") fd
  g_distance : mg "distance" = some (.ref (ga K "distance"))
  f_led_on : ∃ fd, FnP K "led_on" s_led_on (ga K "led_on") fd
  g_led_on : mg "led_on" = some (.ref (ga K "led_on"))
  f_ahead_by : ∃ fd, FnP K "ahead_by" s_ahead_by (ga K "ahead_by") fd
  g_ahead_by : mg "ahead_by" = some (.ref (ga K "ahead_by"))
  f_texts : ∃ fd, FnP K "texts" s_texts (ga K "texts") fd
  g_texts : mg "texts" = some (.ref (ga K "texts"))
  f_in_order : ∃ fd, FnP K "in_order" s_in_order (ga K "in_order") fd
  g_in_order : mg "in_order" = some (.ref (ga K "in_order"))
  f_sorted_words : ∃ fd, FnP K "sorted_words" s_sorted_words (ga K "sorted_words") fd
  g_sorted_words : mg "sorted_words" = some (.ref (ga K "sorted_words"))
  f_shared_beginning : ∃ fd, FnP K "shared_beginning" s_shared_beginning (ga K "shared_beginning") fd
  g_shared_beginning : mg "shared_beginning" = some (.ref (ga K "shared_beginning"))
  f_left_over : ∃ fd, FnP K "left_over" s_left_over (ga K "left_over") fd
  g_left_over : mg "left_over" = some (.ref (ga K "left_over"))
  f_check_length : ∃ fd, FnP K "check_length" s_check_length (ga K "check_length") fd
  g_check_length : mg "check_length" = some (.ref (ga K "check_length"))
  f__shared : ∃ fd, FnP K "_shared" s__shared (ga K "_shared") fd
  g__shared : mg "_shared" = some (.ref (ga K "_shared"))
  f__check_word : ∃ fd, FnP K "_check_word" s__check_word (ga K "_check_word") fd
  g__check_word : mg "_check_word" = some (.ref (ga K "_check_word"))
  f__check_delay : ∃ fd, FnP K "_check_delay" s__check_delay (ga K "_check_delay") fd
  g__check_delay : mg "_check_delay" = some (.ref (ga K "_check_delay"))
  f__law_start : ∃ fd, FnP K "_law_start" sStart (ga K "_law_start") fd
  g__law_start : mg "_law_start" = some (.ref (ga K "_law_start"))
  f__law_throw : ∃ fd, FnP K "_law_throw" sThrow (ga K "_law_throw") fd
  g__law_throw : mg "_law_throw" = some (.ref (ga K "_law_throw"))
  f__law_pick : ∃ fd, FnP K "_law_pick" sPick (ga K "_law_pick") fd
  g__law_pick : mg "_law_pick" = some (.ref (ga K "_law_pick"))
  f__law_shuffled : ∃ fd, FnP K "_law_shuffled" s__law_shuffled (ga K "_law_shuffled") fd
  g__law_shuffled : mg "_law_shuffled" = some (.ref (ga K "_law_shuffled"))
  f__law_drawn_word : ∃ fd, FnP K "_law_drawn_word" s__law_drawn_word (ga K "_law_drawn_word") fd
  g__law_drawn_word : mg "_law_drawn_word" = some (.ref (ga K "_law_drawn_word"))
  f__law_ordered : ∃ fd, FnP K "_law_ordered" s__law_ordered (ga K "_law_ordered") fd
  g__law_ordered : mg "_law_ordered" = some (.ref (ga K "_law_ordered"))
  f__law_all_texts : ∃ fd, FnP K "_law_all_texts" s__law_all_texts (ga K "_law_all_texts") fd
  g__law_all_texts : mg "_law_all_texts" = some (.ref (ga K "_law_all_texts"))
  f__law_common : ∃ fd, FnP K "_law_common" s__law_common (ga K "_law_common") fd
  g__law_common : mg "_law_common" = some (.ref (ga K "_law_common"))
  f__law_gap_of : ∃ fd, FnP K "_law_gap_of" s__law_gap_of (ga K "_law_gap_of") fd
  g__law_gap_of : mg "_law_gap_of" = some (.ref (ga K "_law_gap_of"))
  f__law_is_word : ∃ fd, FnP K "_law_is_word" s__law_is_word (ga K "_law_is_word") fd
  g__law_is_word : mg "_law_is_word" = some (.ref (ga K "_law_is_word"))
  f__law_is_gap : ∃ fd, FnP K "_law_is_gap" s__law_is_gap (ga K "_law_is_gap") fd
  g__law_is_gap : mg "_law_is_gap" = some (.ref (ga K "_law_is_gap"))
  f__law_drawn_words : ∃ fd, FnP K "_law_drawn_words" s__law_drawn_words (ga K "_law_drawn_words") fd
  g__law_drawn_words : mg "_law_drawn_words" = some (.ref (ga K "_law_drawn_words"))
  f__law_common_right : ∃ fd, FnP K "_law_common_right" s__law_common_right (ga K "_law_common_right") fd
  g__law_common_right : mg "_law_common_right" = some (.ref (ga K "_law_common_right"))
  f__law_delays_right : ∃ fd, FnP K "_law_delays_right" s__law_delays_right (ga K "_law_delays_right") fd
  g__law_delays_right : mg "_law_delays_right" = some (.ref (ga K "_law_delays_right"))
  f__law_places_right : ∃ fd, FnP K "_law_places_right" s__law_places_right (ga K "_law_places_right") fd
  g__law_places_right : mg "_law_places_right" = some (.ref (ga K "_law_places_right"))
  f__law_judged_right : ∃ fd, FnP K "_law_judged_right" s__law_judged_right (ga K "_law_judged_right") fd
  g__law_judged_right : mg "_law_judged_right" = some (.ref (ga K "_law_judged_right"))
  f__law_listed_right : ∃ fd, FnP K "_law_listed_right" s__law_listed_right (ga K "_law_listed_right") fd
  g__law_listed_right : mg "_law_listed_right" = some (.ref (ga K "_law_listed_right"))
end K0
-- K1Pure
set_option maxRecDepth 100000
set_option maxHeartbeats 1000000
/-! what is true of texts: common beginnings, what is left over, orders -/
namespace FM
open PySem L2
/-- the signs of a text, by number -/
abbrev sg (x : Str) : List Nat := x.cps.toList
def ofL (l : List Nat) : Str := ⟨l.toArray⟩
theorem sg_ofL (l : List Nat) : sg (ofL l) = l := by simp [sg, ofL]
theorem sg_inj {x y : Str} (h : sg x = sg y) : x = y := by
  cases x
  cases y
  congr
  exact Array.toList_inj.mp h
theorem sg_len (x : Str) : (sg x).length = x.length := by simp [sg, Str.length]
theorem sg_app (x y : Str) : sg (x ++ y) = sg x ++ sg y := by
  show (x.cps ++ y.cps).toList = _
  simp [sg]
theorem app_len (x y : Str) : (x ++ y).length = x.length + y.length := Str.length_append ..
def comLen : List Nat → List Nat → Nat
  | a :: as, b :: bs => if a = b then comLen as bs + 1 else 0
  | _, _ => 0
theorem com_le : ∀ as bs : List Nat, comLen as bs ≤ as.length ∧ comLen as bs ≤ bs.length
  | [], _ => ⟨Nat.zero_le _, Nat.zero_le _⟩
  | _ :: _, [] => ⟨Nat.zero_le _, Nat.zero_le _⟩
  | a :: as, b :: bs => by
    have h := com_le as bs
    simp only [comLen, List.length_cons]
    split <;> omega
theorem com_comm : ∀ as bs : List Nat, comLen as bs = comLen bs as
  | [], [] => rfl
  | [], _ :: _ => rfl
  | _ :: _, [] => rfl
  | a :: as, b :: bs => by
    simp only [comLen]
    by_cases h : a = b
    · rw [if_pos h, if_pos h.symm, com_comm as bs]
    · rw [if_neg h, if_neg fun e => h e.symm]
theorem com_app : ∀ c as bs : List Nat, comLen (c ++ as) (c ++ bs) = c.length + comLen as bs
  | [], _, _ => by simp
  | a :: c, as, bs => by
    simp only [List.cons_append, comLen, if_true, List.length_cons, com_app c as bs]
    omega
theorem com_take : ∀ as bs : List Nat, as.take (comLen as bs) = bs.take (comLen as bs)
  | [], _ => by simp [comLen]
  | _ :: _, [] => by simp [comLen]
  | a :: as, b :: bs => by
    simp only [comLen]
    by_cases h : a = b
    · rw [if_pos h, List.take_succ_cons, List.take_succ_cons, com_take as bs, h]
    · rw [if_neg h]
      simp
theorem com_self (as : List Nat) : comLen as as = as.length := by
  have h := com_app as [] []
  simpa [comLen] using h
theorem com_nil (as : List Nat) : comLen as [] = 0 := by cases as <;> rfl
theorem com_most {p as bs : List Nat} (h1 : p <+: as) (h2 : p <+: bs) : p.length ≤ comLen as bs := by
  obtain ⟨x, rfl⟩ := h1
  obtain ⟨y, rfl⟩ := h2
  rw [com_app]
  omega
theorem com_rest : ∀ as bs : List Nat, comLen (as.drop (comLen as bs)) (bs.drop (comLen as bs)) = 0
  | [], _ => by simp [comLen]
  | _ :: _, [] => by simp [comLen]
  | a :: as, b :: bs => by
    by_cases h : a = b
    · have e : comLen (a :: as) (b :: bs) = comLen as bs + 1 := by simp [comLen, h]
      rw [e, List.drop_succ_cons, List.drop_succ_cons]
      exact com_rest as bs
    · have e : comLen (a :: as) (b :: bs) = 0 := by simp [comLen, h]
      rw [e]
      exact e
theorem comLen_step : ∀ (i : Nat) (as bs : List Nat), (∀ j < i, as[j]? = bs[j]?) → i ≤ as.length → i ≤ bs.length → comLen as bs = i + comLen (as.drop i) (bs.drop i)
  | 0, as, bs, _, _, _ => by simp
  | i + 1, a :: as, b :: bs, h, h1, h2 => by
    have e : a = b := by simpa using h 0 (by omega)
    subst e
    have q := comLen_step i as bs (fun j hj => by simpa using h (j + 1) (by omega)) (by simpa using h1) (by simpa using h2)
    simp only [comLen, if_true, List.drop_succ_cons]
    omega
  | i + 1, [], _, _, h1, _ => by simp at h1
  | i + 1, _ :: _, [], _, _, h2 => by simp at h2
theorem comLen_stop {i : Nat} {as bs : List Nat} {a b : Nat} (h : ∀ j < i, as[j]? = bs[j]?) (ha : as[i]? = some a) (hb : bs[i]? = some b) (ne : a ≠ b) : comLen as bs = i := by
  obtain ⟨la, ea⟩ := List.getElem?_eq_some_iff.mp ha
  obtain ⟨lb, eb⟩ := List.getElem?_eq_some_iff.mp hb
  rw [comLen_step i as bs h (by omega) (by omega), List.drop_eq_getElem_cons la, List.drop_eq_getElem_cons lb, ea, eb]
  simp [comLen, ne]
theorem comLen_end {i : Nat} {as bs : List Nat} (h : ∀ j < i, as[j]? = bs[j]?) (hi : i = min as.length bs.length) : comLen as bs = i := by
  rw [comLen_step i as bs h (by omega) (by omega)]
  have : as.drop i = [] ∨ bs.drop i = [] := by
    rcases Nat.le_total as.length bs.length with q | q
    · exact .inl (List.drop_eq_nil_of_le (by omega))
    · exact .inr (List.drop_eq_nil_of_le (by omega))
  rcases this with q | q
  · rw [q]; simp [comLen]
  · rw [q]
    cases as.drop i <;> simp [comLen]
/-! ### cuts -/
theorem cutS_take (x : Str) {n : Nat} (h : n ≤ x.length) : cutS x none (some (n : Int)) = ofL ((sg x).take n) := by
  have lx : x.cps.toList.length = x.length := by simp [Str.length]
  show (⟨((x.cps.toList.drop (HT.sIx x.length 0 none)).take (HT.sIx x.length x.length (some (n : Int)) - HT.sIx x.length 0 none)).toArray⟩ : Str) = _
  have e1 : HT.sIx x.length 0 none = 0 := rfl
  have e2 : HT.sIx x.length x.length (some (n : Int)) = n := by
    simp only [HT.sIx]
    have h0 : ¬ ((n : Int) < 0) := by omega
    simp [h0]
    omega
  rw [e1, e2, Nat.sub_zero, List.drop_zero]
  rfl
theorem cutS_drop (x : Str) {n : Nat} (h : n ≤ x.length) : cutS x (some (n : Int)) none = ofL ((sg x).drop n) := by
  have lx : x.cps.toList.length = x.length := by simp [Str.length]
  show (⟨((x.cps.toList.drop (HT.sIx x.length 0 (some (n : Int)))).take (HT.sIx x.length x.length none - HT.sIx x.length 0 (some (n : Int)))).toArray⟩ : Str) = _
  have e2 : HT.sIx x.length 0 (some (n : Int)) = n := by
    rw [HT.sIx_nat]
    omega
  have e1 : HT.sIx x.length x.length none = x.length := rfl
  rw [e1, e2, List.take_of_length_le (by rw [List.length_drop]; omega)]
  rfl
/-- the longest common beginning of two -/
def comS (x y : Str) : Str := ofL ((sg x).take (comLen (sg x) (sg y)))
def ovL (x y : Str) : Str := ofL ((sg x).drop (comLen (sg x) (sg y)))
def ovR (x y : Str) : Str := ofL ((sg y).drop (comLen (sg x) (sg y)))
theorem comS_cut (x y : Str) : cutS x none (some ((comLen (sg x) (sg y) : Nat) : Int)) = comS x y := cutS_take x (by have := (com_le (sg x) (sg y)).1; rw [sg_len] at this; exact this)
theorem ovL_cut (x y : Str) : cutS x (some ((comLen (sg x) (sg y) : Nat) : Int)) none = ovL x y := cutS_drop x (by have := (com_le (sg x) (sg y)).1; rw [sg_len] at this; exact this)
theorem ovR_cut (x y : Str) : cutS y (some ((comLen (sg x) (sg y) : Nat) : Int)) none = ovR x y := cutS_drop y (by have := (com_le (sg x) (sg y)).2; rw [sg_len] at this; exact this)
theorem ov_swap (x y : Str) : ovR x y = ovL y x := by
  unfold ovR ovL
  rw [com_comm]
theorem ovL_len (x y : Str) : (ovL x y).length + comLen (sg x) (sg y) = x.length := by
  have h := (com_le (sg x) (sg y)).1
  rw [← sg_len, ← sg_len, ovL, sg_ofL, List.length_drop]
  omega
theorem ovR_len (x y : Str) : (ovR x y).length + comLen (sg x) (sg y) = y.length := by
  have h := (com_le (sg x) (sg y)).2
  rw [← sg_len, ← sg_len, ovR, sg_ofL, List.length_drop]
  omega
theorem ov_self (x : Str) : ovL x x = "" ∧ ovR x x = "" := by
  have e : (sg x).drop (comLen (sg x) (sg x)) = [] := by rw [com_self]; exact List.drop_length
  unfold ovL ovR
  rw [e]
  exact ⟨rfl, rfl⟩
theorem split_at (x y : Str) : sg x = (sg x).take (comLen (sg x) (sg y)) ++ sg (ovL x y) ∧ sg y = (sg x).take (comLen (sg x) (sg y)) ++ sg (ovR x y) := by
  constructor
  · rw [ovL, sg_ofL, List.take_append_drop]
  · rw [ovR, sg_ofL, com_take, List.take_append_drop]
theorem com_led (x y m l : Str) : comLen (sg (x ++ m)) (sg (y ++ l)) = comLen (sg x) (sg y) + comLen (sg (ovL x y ++ m)) (sg (ovR x y ++ l)) := by
  obtain ⟨e1, e2⟩ := split_at x y
  have len : ((sg x).take (comLen (sg x) (sg y))).length = comLen (sg x) (sg y) := by
    rw [List.length_take]
    have := (com_le (sg x) (sg y)).1
    omega
  generalize (sg x).take (comLen (sg x) (sg y)) = c at e1 e2 len
  rw [sg_app, sg_app, sg_app, sg_app]
  generalize comLen (sg x) (sg y) = n at len
  rw [e1, e2, List.append_assoc, List.append_assoc, com_app, len]
theorem led_left (x y m l : Str) : ovL (ovL x y ++ m) (ovR x y ++ l) = ovL (x ++ m) (y ++ l) := by
  refine sg_inj ?_
  have h := com_led x y m l
  have e1 := (split_at x y).1
  have len : ((sg x).take (comLen (sg x) (sg y))).length = comLen (sg x) (sg y) := by
    rw [List.length_take]
    have := (com_le (sg x) (sg y)).1
    omega
  conv => rhs; rw [ovL, sg_ofL, h]
  conv => lhs; rw [ovL, sg_ofL]
  rw [sg_app, sg_app x m]
  generalize comLen (sg (ovL x y ++ m)) (sg (ovR x y ++ l)) = k
  generalize (sg x).take (comLen (sg x) (sg y)) = c at e1 len
  generalize comLen (sg x) (sg y) = n at len
  conv => rhs; rw [e1, List.append_assoc, ← len]
  rw [← List.drop_drop]
  congr 1
  exact List.drop_left.symm
theorem led_right (x y m l : Str) : ovR (ovL x y ++ m) (ovR x y ++ l) = ovR (x ++ m) (y ++ l) := by
  rw [ov_swap, ov_swap x y, ov_swap (x ++ m), ← led_left y x l m, ov_swap y x]
theorem app_nil (z : Str) : z ++ ("" : Str) = z := sg_inj (by rw [sg_app]; exact List.append_nil _)
theorem nil_app (z : Str) : ("" : Str) ++ z = z := sg_inj (by rw [sg_app]; rfl)
theorem led_none (x y : Str) : ovL (ovL x y ++ "") (ovR x y ++ "") = ovL x y ∧ ovR (ovL x y ++ "") (ovR x y ++ "") = ovR x y := by
  rw [led_left, led_right, app_nil, app_nil]
  exact ⟨rfl, rfl⟩
/-! ### far apart -/
def dist (x y : Str) : Nat := (ovL x y).length + (ovR x y).length
theorem dist_eq (x y : Str) : dist x y + 2 * comLen (sg x) (sg y) = x.length + y.length := by
  have h1 := ovL_len x y
  have h2 := ovR_len x y
  unfold dist
  omega
theorem dist_comm (x y : Str) : dist x y = dist y x := by
  unfold dist
  rw [ov_swap x y, ov_swap y x, Nat.add_comm]
theorem dist_zero (x y : Str) : dist x y = 0 ↔ x = y := by
  constructor
  · intro h
    have h1 := ovL_len x y
    have h2 := ovR_len x y
    unfold dist at h
    have t := com_take (sg x) (sg y)
    refine sg_inj ?_
    rw [List.take_of_length_le (by rw [sg_len]; omega), List.take_of_length_le (by rw [sg_len]; omega)] at t
    exact t
  · rintro rfl
    unfold dist
    rw [(ov_self x).1, (ov_self x).2]
    rfl
theorem dist_tri (x y z : Str) : dist x z ≤ dist x y + dist y z := by
  have h1 := dist_eq x y
  have h2 := dist_eq y z
  have h3 := dist_eq x z
  have l1 := (com_le (sg x) (sg y)).2
  have l2 := (com_le (sg y) (sg z)).1
  rw [sg_len] at l1 l2
  have key : min (comLen (sg x) (sg y)) (comLen (sg y) (sg z)) ≤ comLen (sg x) (sg z) := by
    generalize hm : min (comLen (sg x) (sg y)) (comLen (sg y) (sg z)) = m
    have e1 : (sg x).take m = (sg y).take m := by
      have q := congrArg (List.take m) (com_take (sg x) (sg y))
      rwa [List.take_take, List.take_take, Nat.min_eq_left (by omega)] at q
    have e2 : (sg z).take m = (sg y).take m := by
      have q := congrArg (List.take m) (com_take (sg y) (sg z))
      rw [List.take_take, List.take_take, Nat.min_eq_left (by omega)] at q
      exact q.symm
    have hl : ((sg y).take m).length = m := by rw [List.length_take, sg_len]; omega
    rw [← hl]
    exact com_most (by rw [← e1]; exact List.take_prefix ..) (by rw [← e2]; exact List.take_prefix ..)
  omega
/-! ### the longest common beginning of several -/
def comAll : List Str → Str
  | [] => ""
  | k :: ks => ks.foldl comS k
def IsCom (z : Str) (ws : List Str) : Prop := (∀ w ∈ ws, sg z <+: sg w) ∧ ∀ p, (∀ w ∈ ws, p <+: sg w) → p <+: sg z
theorem comS_prefix (x y : Str) : sg (comS x y) <+: sg x ∧ sg (comS x y) <+: sg y := by
  unfold comS
  rw [sg_ofL]
  exact ⟨List.take_prefix .., by rw [com_take]; exact List.take_prefix ..⟩
theorem comS_most {p : List Nat} {x y : Str} (h1 : p <+: sg x) (h2 : p <+: sg y) : p <+: sg (comS x y) := by
  unfold comS
  rw [sg_ofL]
  exact List.prefix_of_prefix_length_le h1 (List.take_prefix ..) (by
    rw [List.length_take]
    have := com_most h1 h2
    have := h1.length_le
    omega)
theorem com_is : ∀ (ks : List Str) (k : Str), IsCom (ks.foldl comS k) (k :: ks)
  | [], k => ⟨fun w hw => by rw [List.mem_singleton.mp hw]; exact List.prefix_refl _, fun p h => h k List.mem_cons_self⟩
  | w :: ks, k => by
    obtain ⟨h1, h2⟩ := com_is ks (comS k w)
    obtain ⟨a, b⟩ := comS_prefix k w
    refine ⟨fun x hx => ?_, fun p hp => h2 p fun x hx => ?_⟩
    · rcases List.mem_cons.mp hx with rfl | hx
      · exact (h1 _ List.mem_cons_self).trans a
      · rcases List.mem_cons.mp hx with rfl | hx
        · exact (h1 _ List.mem_cons_self).trans b
        · exact h1 x (List.mem_cons_of_mem _ hx)
    · rcases List.mem_cons.mp hx with rfl | hx
      · exact comS_most (hp k List.mem_cons_self) (hp w (List.mem_cons_of_mem _ List.mem_cons_self))
      · exact hp x (List.mem_cons_of_mem _ (List.mem_cons_of_mem _ hx))
theorem com_one {z u : Str} {ws vs : List Str} (h1 : IsCom z ws) (h2 : IsCom u vs) (m : ∀ w, w ∈ ws ↔ w ∈ vs) : z = u := by
  have a : sg z <+: sg u := h2.2 _ fun w hw => h1.1 w ((m w).mpr hw)
  have b : sg u <+: sg z := h1.2 _ fun w hw => h2.1 w ((m w).mp hw)
  exact sg_inj (a.eq_of_length (Nat.le_antisymm a.length_le b.length_le))
theorem comAll_same {ws vs : List Str} (h1 : ws ≠ []) (h2 : vs ≠ []) (m : ∀ w, w ∈ ws ↔ w ∈ vs) : comAll ws = comAll vs := by
  obtain ⟨k, ks, rfl⟩ := List.exists_cons_of_ne_nil h1
  obtain ⟨l, ls, rfl⟩ := List.exists_cons_of_ne_nil h2
  exact com_one (com_is ks k) (com_is ls l) m
theorem comAll_nil {ws : List Str} (h : ("" : Str) ∈ ws) : comAll ws = "" := by
  obtain ⟨k, ks, rfl⟩ := List.exists_cons_of_ne_nil (List.ne_nil_of_mem h)
  have q := (com_is ks k).1 "" h
  exact sg_inj (List.prefix_nil.mp q)
theorem comS_self (x : Str) : comS x x = x := by
  unfold comS
  refine sg_inj ?_
  rw [sg_ofL, com_self, List.take_length]
theorem comAll_length : ∀ (ks : List Str) (k : Str), (ks.foldl comS k).length ≤ k.length
  | [], _ => Nat.le_refl _
  | w :: ks, k => by
    refine Nat.le_trans (comAll_length ks (comS k w)) ?_
    rw [← sg_len, ← sg_len]
    exact (comS_prefix k w).1.length_le
/-! ### letters -/
def Let (z : Str) : Prop := ∀ c ∈ sg z, 97 ≤ c ∧ c ≤ 122
theorem Let.app {x y : Str} (h : Let x) (k : Let y) : Let (x ++ y) := fun c hc => by
  rw [sg_app] at hc
  rcases List.mem_append.mp hc with q | q
  · exact h c q
  · exact k c q
theorem Let.ofSub {x : Str} {l : List Nat} (h : Let x) (s : ∀ c ∈ l, c ∈ sg x) : Let (ofL l) := fun c hc => by
  rw [sg_ofL] at hc
  exact h c (s c hc)
theorem Let.ovL {x y : Str} (h : Let x) : Let (ovL x y) := h.ofSub fun _ => List.mem_of_mem_drop
theorem Let.ovR {x y : Str} (h : Let y) : Let (ovR x y) := h.ofSub fun _ => List.mem_of_mem_drop
theorem Let.take {x : Str} (h : Let x) (n : Nat) : Let (ofL ((sg x).take n)) := h.ofSub fun _ => List.mem_of_mem_take
theorem Let.rep {x : Str} (h : Let x) (n : Nat) : Let (repS x n) := fun c hc => by
  have e : sg (repS x n) = (List.replicate n (sg x)).flatten := repS_cps x n
  rw [e] at hc
  obtain ⟨l, hl, hm⟩ := List.mem_flatten.mp hc
  rw [List.mem_replicate] at hl
  rw [hl.2] at hm
  exact h c hm
theorem Let.okS {x : Str} (h : Let x) : okS x := by
  show x.cps.all (· < 0x110000) = true
  rw [Array.all_eq_true']
  intro c hc
  have := (h c (by simpa using hc)).2
  simp
  omega
theorem let_nil : Let "" := fun c hc => nomatch (show c ∈ ([] : List Nat) from hc)
end FM
-- K1Ord
set_option maxRecDepth 100000
set_option maxHeartbeats 1000000
/-! words in order: by length and then by sign, one way and the other -/
namespace FM
open PySem L2
theorem word_of {z : Str} (h : ∀ c ∈ z.cps.toList, alpha.cps.contains c = true) : isWord z = true := by
  unfold isWord
  rw [decide_eq_true_iff]
  unfold Txt.stripChars
  rw [PyProof.Rows.stripBy_eq]
  have e1 : z.cps.toList.takeWhile alpha.cps.contains = z.cps.toList := by
    generalize z.cps.toList = l at h
    induction l with
    | nil => rfl
    | cons c r ih => rw [List.takeWhile_cons, h c List.mem_cons_self, if_pos rfl, ih fun d hd => h d (List.mem_cons_of_mem _ hd)]
  have e2 : stripLo alpha.cps.contains true z = z.cps.size := by
    show (if true = true then (z.cps.toList.takeWhile alpha.cps.contains).length else 0) = _
    rw [if_pos rfl, e1, Array.length_toList]
  rw [e2]
  show (⟨z.cps.extract z.cps.size _⟩ : Str) = ""
  have e3 : ∀ j, z.cps.extract z.cps.size j = #[] := fun j => by simp
  rw [e3]
  rfl
theorem Let.word {z : Str} (h : Let z) : isWord z = true := word_of fun c hc => by
  obtain ⟨h1, h2⟩ := h c hc
  have all : ∀ c < 123, 97 ≤ c → alpha.cps.contains c = true := by decide +kernel
  exact all c (by omega) h1
/-- the order of words -/
def ordS (a b : Str) : Prop := a.length < b.length ∨ (a.length = b.length ∧ leS a b)
theorem ordS_anti {a b : Str} (h : ordS a b) (k : ordS b a) : a = b := by
  rcases h with h | ⟨h, h'⟩
  · rcases k with k | ⟨k, _⟩ <;> omega
  · rcases k with k | ⟨_, k'⟩
    · omega
    · exact leS_anti h' k'
theorem le_dec (a b : Str) : PySem.W.dataLe false (fun x : Str => PyData.int (x.length : Nat)) a b = decide (a.length ≤ b.length) := by
  rw [PySem.W.dataLe_int]
  exact decide_eq_decide.mpr Int.ofNat_le
theorem le_trans3 : ∀ a b c : Str, PySem.W.dataLe false (fun x : Str => PyData.int (x.length : Nat)) a b = true → PySem.W.dataLe false (fun x : Str => PyData.int (x.length : Nat)) b c = true → PySem.W.dataLe false (fun x : Str => PyData.int (x.length : Nat)) a c = true := fun a b c => by
  rw [le_dec, le_dec, le_dec]
  simp only [decide_eq_true_eq]
  omega
theorem le_tot : ∀ a b : Str, (PySem.W.dataLe false (fun x : Str => PyData.int (x.length : Nat)) a b || PySem.W.dataLe false (fun x : Str => PyData.int (x.length : Nat)) b a) = true := fun a b => by
  rw [le_dec, le_dec]
  simp only [Bool.or_eq_true, decide_eq_true_eq]
  omega
theorem pair_in {α : Type} {a b : α} : ∀ {l : List α}, a ∈ l → b ∈ l → a ≠ b → [a, b].Sublist l ∨ [b, a].Sublist l
  | [], h, _, _ => nomatch h
  | x :: l, ha, hb, ne => by
    rcases List.mem_cons.mp ha with rfl | ha'
    · rcases List.mem_cons.mp hb with rfl | hb'
      · exact absurd rfl ne
      · exact .inl ((List.singleton_sublist.mpr hb').cons_cons _)
    · rcases List.mem_cons.mp hb with rfl | hb'
      · exact .inr ((List.singleton_sublist.mpr ha').cons_cons _)
      · exact (pair_in ha' hb' ne).imp (·.cons _) (·.cons _)
theorem no_both {α : Type} {a b : α} : ∀ {l : List α}, l.Nodup → [a, b].Sublist l → [b, a].Sublist l → False
  | [], _, h, _ => by cases h
  | x :: l, nd, h, k => by
    obtain ⟨nx, nd'⟩ := List.nodup_cons.mp nd
    have mem : ∀ {u v : α}, [u, v].Sublist l → u ∈ l ∧ v ∈ l := fun s => ⟨s.subset List.mem_cons_self, s.subset (List.mem_cons_of_mem _ List.mem_cons_self)⟩
    cases h with
    | cons _ h1 =>
      cases k with
      | cons _ k1 => exact no_both nd' h1 k1
      | cons_cons _ k1 => exact nx (mem h1).2
    | cons_cons _ h1 =>
      have bl : b ∈ l := List.singleton_sublist.mp h1
      cases k with
      | cons _ k1 => exact nx (mem k1).2
      | cons_cons _ k1 => exact nx bl
theorem byLen_ord {ks : List Str} (hs : PyProof.Rows.sortedS ks = true) (hd : ks.Nodup) : (byLen ks).Pairwise ordS := by
  have pw : (byLen ks).Pairwise fun a b => PySem.W.dataLe false (fun x : Str => PyData.int (x.length : Nat)) a b = true := List.pairwise_mergeSort le_trans3 le_tot ks
  have perm : (byLen ks).Perm ks := List.mergeSort_perm ks _
  have nd : (byLen ks).Nodup := perm.nodup_iff.mpr hd
  rw [List.pairwise_iff_forall_sublist] at pw ⊢
  intro a b hab
  have h1 := pw hab
  rw [le_dec, decide_eq_true_eq] at h1
  rcases Nat.lt_or_eq_of_le h1 with lt | eq
  · exact .inl lt
  refine .inr ⟨eq, ?_⟩
  have ma : a ∈ ks := perm.mem_iff.mp (hab.subset List.mem_cons_self)
  have mb : b ∈ ks := perm.mem_iff.mp (hab.subset (List.mem_cons_of_mem _ List.mem_cons_self))
  have ne : a ≠ b := fun e => by
    subst e
    have q := nd.sublist hab
    simp at q
  have sp : ∀ {a b : Str}, [a, b].Sublist ks → leS a b := List.pairwise_iff_forall_sublist.mp (pw_sorted ks hs)
  rcases pair_in ma mb ne with q | q
  · exact sp q
  · exfalso
    refine no_both nd hab (List.pair_sublist_mergeSort le_trans3 le_tot ?_ q)
    rw [le_dec, decide_eq_true_eq]
    omega
theorem lenLe_dec (p q : V × Str) : PySem.W.dataLe false lenEnc p q = decide (p.2.length < q.2.length ∨ (p.2.length = q.2.length ∧ ¬ q.2.cps.toList < p.2.cps.toList)) := by
  rw [PySem.W.dataLe_eq]
  show (!PySem.W.dataLt (lenEnc q) (lenEnc p)) = _
  unfold lenEnc
  rw [PySem.W.dataLt_pair (by rfl) (by rfl), PySem.W.dataLt_int, PySem.W.dataLt_str]
  have e1 : PyData.eqv (.int (q.2.length : Nat)) (.int (p.2.length : Nat)) = decide (q.2.length = p.2.length) := by
    rw [Bool.eq_iff_iff]
    simp only [PyData.eqv, beq_iff_eq, decide_eq_true_eq]
    omega
  have e2 : PyData.eqv (.str q.2) (.str p.2) = decide (q.2 = p.2) := by
    rw [Bool.eq_iff_iff]
    simp [PyData.eqv]
  rw [e1, e2]
  simp only [decide_eq_true_eq]
  by_cases h : q.2.length = p.2.length
  · rw [if_pos h]
    by_cases e : q.2 = p.2
    · rw [if_pos e, Bool.eq_iff_iff]
      simp only [Bool.not_false, decide_eq_true_eq, true_iff]
      refine .inr ⟨h.symm, ?_⟩
      rw [e]
      exact List.lt_irrefl _
    · rw [if_neg e, Bool.eq_iff_iff]
      simp only [Bool.not_eq_true', decide_eq_false_iff_not, decide_eq_true_eq]
      constructor
      · exact fun z => .inr ⟨h.symm, z⟩
      · rintro (z | ⟨_, z⟩)
        · omega
        · exact z
  · rw [if_neg h, Bool.eq_iff_iff]
    simp only [Bool.not_eq_true', decide_eq_false_iff_not, decide_eq_true_eq]
    omega
theorem byPair_ord (ps : List (V × Str)) : (byPair ps).Pairwise fun p q => ordS p.2 q.2 := by
  have tr : ∀ a b c : V × Str, PySem.W.dataLe false lenEnc a b = true → PySem.W.dataLe false lenEnc b c = true → PySem.W.dataLe false lenEnc a c = true := fun a b c => by
    rw [lenLe_dec, lenLe_dec, lenLe_dec]
    simp only [decide_eq_true_eq]
    rintro (h | ⟨h, h'⟩) (k | ⟨k, k'⟩)
    · exact .inl (by omega)
    · exact .inl (by omega)
    · exact .inl (by omega)
    · refine .inr ⟨by omega, ?_⟩
      rw [List.not_lt] at h' k' ⊢
      exact List.le_trans h' k'
  have tot : ∀ a b : V × Str, (PySem.W.dataLe false lenEnc a b || PySem.W.dataLe false lenEnc b a) = true := fun a b => by
    rw [lenLe_dec, lenLe_dec]
    simp only [Bool.or_eq_true, decide_eq_true_eq]
    rcases Nat.lt_trichotomy a.2.length b.2.length with h | h | h
    · exact .inl (.inl h)
    · rcases List.le_total b.2.cps.toList a.2.cps.toList with z | z
      · exact .inr (.inr ⟨h.symm, List.not_lt.mpr z⟩)
      · exact .inl (.inr ⟨h, List.not_lt.mpr z⟩)
    · exact .inr (.inl h)
  refine (List.pairwise_mergeSort tr tot ps).imp fun {p q} h => ?_
  rw [lenLe_dec, decide_eq_true_eq] at h
  rcases h with h | ⟨h, h'⟩
  · exact .inl h
  · exact .inr ⟨h, List.not_lt.mp h'⟩
theorem pairs_one {ks : List Str} {ps : List (V × Str)} (hs : PyProof.Rows.sortedS ks = true) (hd : ks.Nodup) (e : ps.map (·.2) = ks) : (byPair ps).map (·.2) = byLen ks := by
  have p1 : ((byPair ps).map (·.2)).Perm ks := by
    rw [← e]
    exact (List.mergeSort_perm ps _).map _
  have p2 : (byLen ks).Perm ks := List.mergeSort_perm ks _
  refine List.Perm.eq_of_pairwise (le := ordS) (fun a b _ _ h k => ordS_anti h k) ?_ (byLen_ord hs hd) (p1.trans p2.symm)
  rw [List.pairwise_map]
  exact byPair_ord ps
end FM
-- K1Prog
set_option maxRecDepth 100000
set_option maxHeartbeats 1000000
namespace FM
open PySem L2
def lets (z : Str) : Bool := PyProof.Rows.sortedS (signs z) && decide (signs z).Nodup
def apartS (a b : Str) : Bool := match a.cps.toList, b.cps.toList with
  | c :: _, d :: _ => !decide (c = d)
  | _, _ => true
def apartV : V → V → Bool
  | .str a, .str b => apartS a b
  | _, _ => false
/-- a loop over zip of two texts -/
theorem for_zipS {x y : Str} {g : TG} {tb : TS} {D : Ends} {σ : L2.St} {H : Hp} (Pv : Nat → L2.St → Hp → Prop) (h0 : Pv 0 σ H)
    (hs : ∀ (i : Nat) (c d : Nat) (T : Addr) (σ : L2.St) (H : Hp), x.cps[i]? = some c → y.cps[i]? = some d → Pv i σ H → H T = none →
      g (.ref T) σ (upd H T (.tup [.str ⟨#[c]⟩, .str ⟨#[d]⟩])) fun σ2 H2 => tb { D with nx := Pv (i + 1), ct := Pv (i + 1), bk := D.nx } σ2 H2)
    (hd : ∀ σ H, Pv (min x.cps.size y.cps.size) σ H → D.nx σ H) :
    ∃ W : Nat → Nat → L2.St → Hp → Prop, (∃ m, W 0 m σ H) ∧ ∀ i m σ H, W i m σ H →
      ((ItzS x y).stop i H ∧ D.nx σ H) ∨ ((ItzS x y).go i H ∧ ∃ N : L2.St → Hp → Prop, (∀ σ' H', N σ' H' → ∃ m', m' < m ∧ W (i + 1) m' σ' H') ∧
        ∀ v H', (ItzS x y).yld i H v H' → g v σ H' fun σ2 H2 => tb { D with nx := N, ct := N, bk := D.nx } σ2 H2) := by
  refine ⟨fun i m σ H => m = min x.cps.size y.cps.size - i ∧ i ≤ min x.cps.size y.cps.size ∧ Pv i σ H, ⟨_, rfl, Nat.zero_le _, h0⟩, ?_⟩
  rintro i m σ H ⟨rfl, hi, p⟩
  by_cases lt : i < min x.cps.size y.cps.size
  · refine .inr ⟨lt, Pv (i + 1), fun σ' H' p' => ⟨_, ?_, rfl, lt, p'⟩, fun v H' y => ?_⟩
    · omega
    · obtain ⟨T, c, d, rfl, nT, rfl, hc, hd'⟩ := y
      exact hs i c d T σ H hc hd' p nT
  · have e : i = min x.cps.size y.cps.size := by omega
    subst e
    exact .inl ⟨Nat.le_refl _, hd σ H p⟩
/-- a text of letters, not too long -/
def W (z : Str) : Prop := Let z ∧ z.length ≤ 4000
theorem W.word {z : Str} (h : W z) : isWord z = true := h.1.word
theorem W.sz {z : Str} (h : W z) : z.length ≤ sizeLine := by rw [sizeLine_eq]; have := h.2; omega
theorem W.ok {z : Str} (h : W z) : okS z := h.1.okS
theorem W.ovL {x y : Str} (h : W x) : W (ovL x y) := ⟨h.1.ovL, by have := ovL_len x y; have := h.2; omega⟩
theorem W.ovR {x y : Str} (h : W y) : W (ovR x y) := ⟨h.1.ovR, by have := ovR_len x y; have := h.2; omega⟩
theorem W.comS {x y : Str} (h : W x) : W (comS x y) := ⟨h.1.ofSub fun _ => List.mem_of_mem_take, by
  have := (comS_prefix x y).1.length_le
  rw [sg_len, sg_len] at this
  have := h.2
  omega⟩
theorem comAll_W : ∀ (ks : List Str) (k : Str), W k → W (ks.foldl FM.comS k)
  | [], _, h => h
  | w :: ks, k, h => comAll_W ks (FM.comS k w) h.comS
theorem com_apart : ∀ as bs : List Nat, (match as.drop (comLen as bs), bs.drop (comLen as bs) with | c :: _, d :: _ => !decide (c = d) | _, _ => true) = true
  | [], bs => by simp [comLen]
  | a :: as, [] => by simp [comLen]
  | a :: as, b :: bs => by
    by_cases e : a = b
    · have h := com_apart as bs
      have c : comLen (a :: as) (b :: bs) = comLen as bs + 1 := by simp [comLen, e]
      rw [c, List.drop_succ_cons, List.drop_succ_cons]
      exact h
    · have c : comLen (a :: as) (b :: bs) = 0 := by simp [comLen, e]
      rw [c, List.drop_zero, List.drop_zero]
      simp [e]
theorem gap_apart (x y : Str) : apartS (ovL x y) (ovR x y) = true := by
  unfold apartS
  rw [show (ovL x y).cps.toList = (sg x).drop (comLen (sg x) (sg y)) from sg_ofL _, show (ovR x y).cps.toList = (sg y).drop (comLen (sg x) (sg y)) from sg_ofL _]
  exact com_apart _ _
end FM
namespace K0
open PySem L2 FM He
def spIsWord (K : PySem.W.Frag) : Sp := fun vs H Q _ => ∃ x : V, vs = [x] ∧ ((∃ z : Str, x = .str z ∧ z.length ≤ sizeLine ∧ Q (.bl (isWord z)) H) ∨ (NotTy K H x "str" ∧ Q (.bl false) H))
def spIsTupleOf (K : PySem.W.Frag) : Sp := fun vs H Q _ => ∃ (x : V) (n : Nat), vs = [x, .int n] ∧ ((∃ t xs, x = .ref t ∧ SqT K H t xs ∧ Q (.bl (decide (xs.length = n))) H) ∨ (NotTy K H x "tuple" ∧ Q (.bl false) H))
/-- a value, and whether it is a text -/
def TextV (K : PySem.W.Frag) (H : Hp) (y : V) (b : Bool) : Prop := (∃ z : Str, y = .str z ∧ z.length ≤ sizeLine ∧ (isWord z && decide (z.length ≤ 60)) = b) ∨ (NotTy K H y "str" ∧ b = false)
theorem textV_same {K : PySem.W.Frag} {H H' : Hp} {y : V} {b : Bool} (S : Same H H') (h : TextV K H y b) : TextV K H' y b := h.imp id fun ⟨h, e⟩ => ⟨notTy_same S h, e⟩
/-- is_delay's answer, of any value -/
def DelayV (K : PySem.W.Frag) (H : Hp) (x : V) (r : Bool) : Prop :=
  (NotTy K H x "tuple" ∧ r = false) ∨ (∃ t xs, x = .ref t ∧ SqT K H t xs ∧ xs.length ≠ 2 ∧ r = false) ∨
  (∃ t y1 y2 b1 b2, x = .ref t ∧ SqT K H t [y1, y2] ∧ WordV K H y1 b1 ∧ WordV K H y2 b2 ∧ r = (b1 && b2 && apartV y1 y2))
def spIsDelay (K : PySem.W.Frag) : Sp := fun vs H Q _ => ∃ (x : V) (r : Bool), vs = [x] ∧ DelayV K H x r ∧ ∀ H', Same H H' → Q (.bl r) H'
section
variable {P : Program} {w : World} {K : PySem.W.Frag} {mg : Str → Option Value} {base : Heap}
theorem ok_is_word {f : Addr} {fd : FuncData} (F : FnP K "is_word" s_is_word f fd) (T : TP K mg) : FnOk P w K mg base CX0 1 f fd ["value"] (spIsWord K) := by
  refine F.ok sc_is_word (fun vs H Q E h => ?_) (fun cdv A outer s H vs Q E hr h => ?_)
  · obtain ⟨x, rfl, _⟩ := h
    rfl
  · obtain ⟨x, rfl, h⟩ := h
    have nd := sc_is_word.nd
    refine ⟨_, PSs.nox (pss_one (ps_ret (pe_and (pe_callB call_isi (by rfl) T.b_isinstance (by decide +kernel) (pa_cons (pv 0) (pa_cons (pe_bltn (v := .ty "str") (by rfl) T.b_str (by decide +kernel) rfl) pa_nil))) (pe_one (pe_cmpR op_eq (pe_bm PySem.F.plainAttrs_str PySem.F.slot_str_strip PySem.F.type_str_strip mt_stripChars (pv 0) (pa_cons (C8.pe_gc (v := .str alpha) (by rfl) T.c__ALPHABET) pa_nil)) pe_str (nomark _)))))), ?_⟩
    rcases h with ⟨z, rfl, hz, k⟩ | ⟨⟨t, ht, hk⟩, k⟩
    · refine ⟨_, rfl, _, _, _, _, true, rfl, ClsV.ty _, .base (.str z), kit_ty (by decide +kernel), true, rfl, iteT ?_⟩
      refine ⟨_, rfl, rfl, _, _, rfl, rfl, hz, rfl, ?_⟩
      have e : (decide (V.str (Txt.stripChars z alpha) = V.str "")) = isWord z := dec_strV _ _
      rw [e]
      exact k
    · exact ⟨_, rfl, _, _, _, _, false, rfl, ClsV.ty _, ht, hk, false, rfl, iteF k⟩
theorem ok_is_tuple_of {f : Addr} {fd : FuncData} (F : FnP K "is_tuple_of" s_is_tuple_of f fd) (T : TP K mg) : FnOk P w K mg base CX0 1 f fd ["value", "many"] (spIsTupleOf K) := by
  refine F.ok sc_is_tuple_of (fun vs H Q E h => ?_) (fun cdv A outer s H vs Q E hr h => ?_)
  · obtain ⟨x, n, rfl, _⟩ := h
    rfl
  · obtain ⟨x, n, rfl, h⟩ := h
    have nd := sc_is_tuple_of.nd
    refine ⟨_, PSs.nox (pss_one (ps_ret (pe_and (pe_callB call_isi (by rfl) T.b_isinstance (by decide +kernel) (pa_cons (pv 0) (pa_cons (pe_bltn (v := .ty "tuple") (by rfl) T.b_tuple (by decide +kernel) rfl) pa_nil))) (pe_one (pe_cmpR op_eq (pe_callB call_len (by rfl) T.b_len (by decide +kernel) (pa_cons (pv 0) pa_nil)) (pv 1) (nomark _)))))), ?_⟩
    rcases h with ⟨t, xs, rfl, hs, k⟩ | ⟨⟨t, ht, hk⟩, k⟩
    · refine ⟨_, rfl, _, _, _, _, true, rfl, ClsV.ty _, ty_tup hs, kit_ty (by decide +kernel), true, rfl, iteT ?_⟩
      refine ⟨_, rfl, _, xs.length, rfl, .inr ⟨xs, hs, rfl⟩, _, rfl, rfl, ?_⟩
      have e : (decide (V.int (xs.length : Int) = V.int (n : Int))) = decide (xs.length = n) := by
        rw [dec_intV]
        exact decide_eq_decide.mpr Int.ofNat_inj
      rw [e]
      exact k
    · exact ⟨_, rfl, _, _, _, _, false, rfl, ClsV.ty _, ht, hk, false, rfl, iteF k⟩
def spIsText (K : PySem.W.Frag) : Sp := fun vs H Q _ => ∃ (x : V) (b : Bool), vs = [x] ∧ TextV K H x b ∧ Q (.bl b) H
theorem ok_is_text {f : Addr} {fd : FuncData} (F : FnP K "is_text" s_is_text f fd) (T : TP K mg) : FnOk P w K mg base CX0 2 f fd ["value"] (spIsText K) := by
  obtain ⟨d_is_word, F_is_word⟩ := T.f_is_word
  have G_is_word := ok_is_word (P := P) (w := w) (base := base) F_is_word T
  have b_is_word : Binds K d_is_word ["value"] [] := F_is_word.bindsN fun _ _ _ _ _ _ us hl => match us, hl with | [_], _ => rfl
  refine F.ok sc_is_text (fun vs H Q E h => ?_) (fun cdv A outer s H vs Q E hr h => ?_)
  · obtain ⟨x, b, rfl, _⟩ := h
    rfl
  · obtain ⟨x, b, rfl, h, k⟩ := h
    have nd := sc_is_text.nd
    refine ⟨_, PSs.nox (pss_one (ps_ret (pe_and (pe_call G_is_word (hr.mono (by decide)) rfl T.g_is_word F_is_word.kp b_is_word .nil pass0 (pa_cons (pv 0) pa_nil)) (pe_one (pe_cmpR op_le (pe_callB call_len (by rfl) T.b_len (by decide +kernel) (pa_cons (pv 0) pa_nil)) (C8.pe_gc (v := .int 60) (by rfl) T.c_MAX_TEXT) (nomark _)))))), ?_⟩
    rcases h with ⟨z, rfl, hz, rfl⟩ | ⟨hn, rfl⟩
    · refine ⟨_, rfl, _, rfl, .inl ⟨z, rfl, hz, isWord z, rfl, ?_⟩⟩
      cases hw : isWord z with
      | false =>
        rw [hw] at k
        exact iteF k
      | true =>
        rw [hw, Bool.true_and] at k
        refine iteT ⟨_, rfl, _, z.length, rfl, ⟨hz, rfl⟩, _, _, rfl, rfl, ?_⟩
        have e : decide (((z.length : Nat) : Int) ≤ 60) = decide (z.length ≤ 60) := decide_eq_decide.mpr (by omega)
        rw [← e] at k
        exact k
    · exact ⟨_, rfl, _, rfl, .inr ⟨hn, false, rfl, iteF k⟩⟩
theorem com_of_cut {x y : Str} {m : Nat} (hm : m = min x.length y.length) (e : cutS x none (some (m : Int)) = cutS y none (some (m : Int))) : comLen x.cps.toList y.cps.toList = m := by
  have lx : x.cps.toList.length = x.length := by simp [Str.length]
  have ly : y.cps.toList.length = y.length := by simp [Str.length]
  rw [cutS_take x (by omega), cutS_take y (by omega)] at e
  have e2 : x.cps.toList.take m = y.cps.toList.take m := by
    have := congrArg (fun s : Str => s.cps.toList) e
    simpa [ofL] using this
  refine comLen_end (i := m) (fun j hj => ?_) (by omega)
  have := congrArg (fun l => l[j]?) e2
  simpa [List.getElem?_take_of_lt hj] using this
def spShared : Sp := fun vs H Q _ => ∃ x y : Str, vs = [.str x, .str y] ∧ x.length ≤ sizeLine ∧ y.length ≤ sizeLine ∧ ∀ H', Same H H' → Q (.int (comLen x.cps.toList y.cps.toList)) H'
theorem ok_shared {f : Addr} {fd : FuncData} (F : FnP K "_shared" s__shared f fd) (T : TP K mg) : FnOk P w K mg base CX0 1 f fd ["word", "other"] spShared := by
  refine F.ok sc__shared (fun vs H Q E h => ?_) (fun cdv A outer s H vs Q E hr h => ?_)
  · obtain ⟨x, y, rfl, _⟩ := h
    rfl
  · obtain ⟨x, y, rfl, hx, hy, k⟩ := h
    have nd := sc__shared.nd
    refine ⟨_, PSs.nox (pss_cons (ps_set (i := 2) nd rfl (.inl rfl) (pe_callB (call_min2 rfl) (by rfl) T.b_min (by decide +kernel) (pa_cons (pe_callB call_len (by rfl) T.b_len (by decide +kernel) (pa_cons (pv 0) pa_nil)) (pa_cons (pe_callB call_len (by rfl) T.b_len (by decide +kernel) (pa_cons (pv 1) pa_nil)) pa_nil))))
      (pss_cons (ps_if (pt_cmpR op_eq (pe_slice sl_str (pv 0) po_none (po_some (pv 2))) (pe_slice sl_str (pv 1) po_none (po_some (pv 2))) (nomark _)) (pss_one (ps_ret (pv 2))) pss_nil)
      (pss_cons (ps_set (i := 3) nd rfl (.inl rfl) pe_int)
      (pss_cons (ps_for PassesOwn.never rfl (pi_zipS (by rfl) T.b_zip (pa_cons (pv 0) (pa_cons (pv 1) pa_nil))) (pg_tup (by rfl) (pgs_cons (pg_name (i := 4) nd rfl (.inl rfl)) (pgs_cons (pg_name (i := 5) nd rfl (.inl rfl)) pgs_nil))) (pss_cons (ps_if (pt_cmpR op_ne (pv 4) (pv 5) (nomark _)) (pss_one (ps_ret (pv 3))) pss_nil)
      (pss_one (ps_aug (i := 3) nd rfl (.inl rfl) pe_int ip_add))))
      (pss_one (ps_ret (pv 3))))))), ?_⟩
    refine ⟨_, rfl, _, x.length, rfl, ⟨hx, rfl⟩, _, rfl, _, y.length, rfl, ⟨hy, rfl⟩, _, _, rfl, ?_⟩
    have em : (if ((y.length : Nat) : Int) < ((x.length : Nat) : Int) then ((y.length : Nat) : Int) else ((x.length : Nat) : Int)) = ((min x.length y.length : Nat) : Int) := by
      split <;> omega
    rw [em]
    refine ⟨_, rfl, _, rfl, _, rfl, x, rfl, hx, _, rfl, _, rfl, _, rfl, y, rfl, hy, rfl, _, rfl, ?_⟩
    rw [dec_strV]
    by_cases ec : cutS x none (some ((min x.length y.length : Nat) : Int)) = cutS y none (some ((min x.length y.length : Nat) : Int))
    · rw [decide_eq_true ec]
      refine iteT ⟨_, rfl, ?_⟩
      have := k _ (Same.refl H)
      rw [com_of_cut rfl ec] at this
      exact this
    rw [decide_eq_false ec]
    refine iteF ?_
    refine ⟨_, rfl, _, rfl, x, y, rfl, ?_⟩
    refine for_zipS (fun i σ H' => ∃ u v, σ = [some (.str x), some (.str y), some (.int (min x.length y.length : Nat)), some (.int (i : Nat)), u, v] ∧ Same H H' ∧ ∀ j < i, x.cps.toList[j]? = y.cps.toList[j]?) ⟨_, _, rfl, Same.refl _, fun j hj => absurd hj (Nat.not_lt_zero j)⟩ ?_ ?_
    · rintro i c d Tt σ H' hc hd ⟨u, v, rfl, S, hj⟩ nT
      have S2 := S.trans (same_upd (o := .tup [.str ⟨#[c]⟩, .str ⟨#[d]⟩]) nT)
      have hc' : x.cps.toList[i]? = some c := by simpa using hc
      have hd' : y.cps.toList[i]? = some d := by simpa using hd
      refine ⟨Tt, _, rfl, SqT.of upd_same, rfl, _, _, rfl, _, _, rfl, rfl, ?_⟩
      refine ⟨_, rfl, _, rfl, rfl, _, rfl, ?_⟩
      by_cases e : c = d
      · subst e
        rw [decide_eq_true rfl]
        refine iteF ?_
        refine ⟨_, rfl, _, _, rfl, rfl, ?_⟩
        refine ⟨_, _, rfl, S2, fun j hj2 => ?_⟩
        rcases Nat.lt_succ_iff_lt_or_eq.mp hj2 with q | q
        · exact hj j q
        · rw [q, hc', hd']
      · have ne : ¬ (V.str ⟨#[c]⟩ = V.str ⟨#[d]⟩) := fun q => e (by
          have := V.str.inj q
          simpa using this)
        rw [decide_eq_false ne]
        refine iteT ⟨_, rfl, ?_⟩
        have := k _ S2
        rw [comLen_stop hj hc' hd' e] at this
        exact this
    · rintro σ H' ⟨u, v, rfl, S, hj⟩
      refine ⟨_, rfl, ?_⟩
      have := k _ S
      rw [comLen_end hj (by simp)] at this
      exact this
def spLeftOver : Sp := fun vs H Q _ => ∃ x y : Str, vs = [.str x, .str y] ∧ W x ∧ W y ∧
  ∀ H' p, Same H H' → H p = none → H' p = some (.tup [.str (ovL x y), .str (ovR x y)]) → Q (.ref p) H'
theorem ok_left_over {f : Addr} {fd : FuncData} (F : FnP K "left_over" s_left_over f fd) (T : TP K mg) : FnOk P w K mg base CX0 2 f fd ["word", "other"] spLeftOver := by
  obtain ⟨d__shared, F__shared⟩ := T.f__shared
  have G__shared := ok_shared (P := P) (w := w) (base := base) F__shared T
  have b__shared : Binds K d__shared ["word", "other"] [] := F__shared.bindsN fun _ _ _ _ _ _ us hl => match us, hl with | [_, _], _ => rfl
  refine F.ok sc_left_over (fun vs H Q E h => ?_) (fun cdv A outer s H vs Q E hr h => ?_)
  · obtain ⟨x, y, rfl, _⟩ := h
    rfl
  · obtain ⟨x, y, rfl, wx, wy, k⟩ := h
    have nd := sc_left_over.nd
    refine ⟨_, PSs.nox (pss_cons (ps_set (i := 2) nd rfl (.inl rfl) (pe_call G__shared (hr.mono (by decide)) rfl T.g__shared F__shared.kp b__shared .nil pass0 (pa_cons (pv 0) (pa_cons (pv 1) pa_nil))))
      (pss_one (ps_ret (pe_tup (pa_cons (pe_slice sl_str (pv 0) (po_some (pv 2)) po_none) (pa_cons (pe_slice sl_str (pv 1) (po_some (pv 2)) po_none) pa_nil)))))), ?_⟩
    refine ⟨_, rfl, _, rfl, x, y, rfl, wx.sz, wy.sz, fun H1 S1 => ?_⟩
    refine ⟨_, rfl, ⟨_, rfl, _, rfl, x, rfl, wx.sz, _, rfl, ⟨_, rfl, _, rfl, y, rfl, wy.sz, by show 2 ≤ sizeLine; decide, fun p np => ?_⟩⟩⟩
    refine k _ p (S1.trans (same_upd np)) (S1.free np) ?_
    rw [upd_same, ← ovL_cut, ← ovR_cut]
theorem ok_is_delay {f : Addr} {fd : FuncData} (F : FnP K "is_delay" s_is_delay f fd) (T : TP K mg) : FnOk P w K mg base CX0 2 f fd ["value"] (spIsDelay K) := by
  obtain ⟨d_is_tuple_of, F_is_tuple_of⟩ := T.f_is_tuple_of
  have G_is_tuple_of := ok_is_tuple_of (P := P) (w := w) (base := base) F_is_tuple_of T
  have b_is_tuple_of : Binds K d_is_tuple_of ["value", "many"] [] := F_is_tuple_of.bindsN fun _ _ _ _ _ _ us hl => match us, hl with | [_, _], _ => rfl
  obtain ⟨d_is_word, F_is_word⟩ := T.f_is_word
  have G_is_word := ok_is_word (P := P) (w := w) (base := base) F_is_word T
  have b_is_word : Binds K d_is_word ["value"] [] := F_is_word.bindsN fun _ _ _ _ _ _ us hl => match us, hl with | [_], _ => rfl
  refine F.ok sc_is_delay (fun vs H Q E h => ?_) (fun cdv A outer s H vs Q E hr h => ?_)
  · obtain ⟨x, r, rfl, _⟩ := h
    rfl
  · obtain ⟨x, r, rfl, hd, k⟩ := h
    have nd := sc_is_delay.nd
    refine ⟨_, PSs.nox (pss_cons (ps_if (PW.pt (pw_or (pt_not (pt_val (pe_call G_is_tuple_of (hr.mono (by decide)) rfl T.g_is_tuple_of F_is_tuple_of.kp b_is_tuple_of .nil pass0 (pa_cons (pv 0) (pa_cons pe_int pa_nil))))) (pw_or1 (pt_not (pt_val (pe_callB (cr_all rfl) (by rfl) T.b_all (by decide +kernel) (pa_cons (pe_lc (own := [("word", 1)]) rfl nd (pi_tup (pv 0)) (blkOk_by (own := [("word", 1)]) (N := ["value", "word"]) (sc := defScope s_is_delay) (by decide +kernel)) (fun _ _ _ _ _ => (pg_name (i := 1) nd rfl (.inl rfl))) (fun _ _ _ _ _ => pts_nil) (fun _ _ _ _ _ => (pe_call G_is_word (hr.mono (by decide)) rfl T.g_is_word F_is_word.kp b_is_word .nil pass0 (pa_cons (pv 1) pa_nil)))) pa_nil))))))) (pss_one (ps_ret pe_bl)) pss_nil)
      (pss_one (ps_ret (pe_or (pe_cmpR op_eq (pe_ix ix_seq (pv 0) pe_int (fun _ _ => rfl)) pe_str (nomark _)) (pe_or (pe_cmpR op_eq (pe_ix ix_seq (pv 0) pe_int (fun _ _ => rfl)) pe_str (nomark _)) (pe_one (pe_cmpR op_ne (pe_ix ix_seq (pe_ix ix_seq (pv 0) pe_int (fun _ _ => rfl)) pe_int (fun _ _ => rfl)) (pe_ix ix_seq (pe_ix ix_seq (pv 0) pe_int (fun _ _ => rfl)) pe_int (fun _ _ => rfl)) (nomark _)))))))), ?_⟩
    rcases hd with ⟨hn, rfl⟩ | ⟨t, xs, rfl, ht, hl, rfl⟩ | ⟨t, y1, y2, b1, b2, rfl, ht, h1, h2, rfl⟩
    · exact ⟨_, rfl, x, 2, rfl, .inr ⟨hn, false, rfl, iteT (iteT (k H (Same.refl H)))⟩⟩
    · exact ⟨_, rfl, _, 2, rfl, .inl ⟨t, xs, rfl, ht, _, rfl, by rw [decide_eq_false hl]; exact iteT (iteT (k H (Same.refl H)))⟩⟩
    · refine ⟨_, rfl, _, 2, rfl, .inl ⟨t, _, rfl, ht, true, rfl, iteF ?_⟩⟩
      refine ⟨_, rfl, t, rfl, ⟨_, ht⟩, fun D nD => ?_⟩
      refine lc_tup (xs := [y1, y2]) (K := K) (fun i H' => Same H H' ∧ H' D = some (.lst (([b1, b2].take i).map V.bl))) ⟨same_upd nD, upd_same⟩ (fun i H' _ h => sqT_same h.1 ht) (fun i x H' hx hP => ?_) (fun H' hP => ?_)
      · obtain ⟨S, hD⟩ := hP
        have hw : ∃ b, WordV K H' x b ∧ ([b1, b2].take (i + 1)) = ([b1, b2].take i) ++ [b] := by
          match i, hx with
          | 0, hx => cases hx; exact ⟨b1, wordV_same S h1, rfl⟩
          | 1, hx => cases hx; exact ⟨b2, wordV_same S h2, rfl⟩
        obtain ⟨b, hb, eb⟩ := hw
        have fin : ∃ acc, H' D = some (.lst acc) ∧ acc.length < sizeLine ∧ (Same H (upd H' D (.lst (acc ++ [.bl b]))) ∧ (upd H' D (.lst (acc ++ [.bl b]))) D = some (.lst (([b1, b2].take (i + 1)).map V.bl))) := by
          refine ⟨_, hD, ?_, fun c o hc => ?_, ?_⟩
          · rw [List.length_map, List.length_take]
            have : sizeLine = 16777216 := sizeLine_eq
            simp
            omega
          · rw [upd_ne (ne_of_none hc nD)]
            exact S _ _ hc
          · rw [upd_same, eb, List.map_append]
            rfl
        refine ⟨rfl, _, rfl, x, rfl, ?_⟩
        rcases hb with ⟨z, rfl, hz, e⟩ | ⟨hn, e⟩
        · rw [← e] at fin
          exact .inl ⟨z, rfl, hz, fin⟩
        · rw [e] at fin
          exact .inr ⟨hn, fin⟩
      · obtain ⟨S, hD⟩ := hP
        refine ⟨D, [b1, b2], rfl, SqL.of hD, _, rfl, ?_⟩
        have ht' : SqT K H' t [y1, y2] := sqT_same S ht
        have ea : ([b1, b2].all id) = (b1 && b2) := by simp
        rw [ea]
        cases hb : (b1 && b2) with
        | false => exact iteT (by have := k H' S; rw [hb] at this; exact this)
        | true =>
          refine iteF ?_
          obtain ⟨rfl, rfl⟩ : b1 = true ∧ b2 = true := by simpa using hb
          obtain ⟨z1, rfl, hz1, _⟩ : ∃ z : Str, y1 = .str z ∧ z.length ≤ sizeLine ∧ isWord z = true := by
            rcases h1 with h | ⟨_, h⟩
            · exact h
            · cases h
          obtain ⟨z2, rfl, hz2, _⟩ : ∃ z : Str, y2 = .str z ∧ z.length ≤ sizeLine ∧ isWord z = true := by
            rcases h2 with h | ⟨_, h⟩
            · exact h
            · cases h
          have k' := k H' S
          rw [Bool.true_and, Bool.true_and] at k'
          have at0 : atI ([V.str z1, V.str z2] : List V) 0 = some (.str z1) := rfl
          have at1 : atI ([V.str z1, V.str z2] : List V) 1 = some (.str z2) := rfl
          refine ⟨_, rfl, .inr (.inl ⟨t, _, 0, _, rfl, rfl, ht', at0, rfl, _, rfl, ?_⟩)⟩
          rw [dec_strV]
          by_cases e1 : z1 = ""
          · rw [decide_eq_true e1]
            refine iteT ?_
            have : apartV (.str z1) (.str z2) = true := by rw [e1]; rfl
            rw [this] at k'
            exact k'
          · rw [decide_eq_false e1]
            refine iteF ⟨_, rfl, .inr (.inl ⟨t, _, 1, _, rfl, rfl, ht', at1, rfl, _, rfl, ?_⟩)⟩
            rw [dec_strV]
            by_cases e2 : z2 = ""
            · rw [decide_eq_true e2]
              refine iteT ?_
              have : apartV (.str z1) (.str z2) = true := by
                rw [e2]
                show apartS z1 "" = true
                unfold apartS
                cases z1.cps.toList <;> rfl
              rw [this] at k'
              exact k'
            · rw [decide_eq_false e2]
              refine iteF ?_
              obtain ⟨c, cs, ec⟩ : ∃ c cs, z1.cps.toList = c :: cs := by
                cases hq : z1.cps.toList with
                | nil => exact absurd (by cases z1; simp at hq; subst hq; rfl) e1
                | cons c cs => exact ⟨c, cs, rfl⟩
              obtain ⟨d, ds, ed⟩ : ∃ c cs, z2.cps.toList = c :: cs := by
                cases hq : z2.cps.toList with
                | nil => exact absurd (by cases z2; simp at hq; subst hq; rfl) e2
                | cons c cs => exact ⟨c, cs, rfl⟩
              have ac : atI z1.cps.toList 0 = some c := by rw [ec]; exact atI_nat (j := 0) rfl
              have ad : atI z2.cps.toList 0 = some d := by rw [ed]; exact atI_nat (j := 0) rfl
              refine ⟨_, rfl, .inr (.inl ⟨t, _, 0, _, rfl, rfl, ht', at0, .inr (.inr ⟨z1, 0, c, rfl, rfl, hz1, ac, ?_⟩)⟩)⟩
              refine ⟨_, rfl, .inr (.inl ⟨t, _, 1, _, rfl, rfl, ht', at1, .inr (.inr ⟨z2, 0, d, rfl, rfl, hz2, ad, rfl, ?_⟩)⟩)⟩
              have e3 : apartV (.str z1) (.str z2) = !decide (V.str ⟨#[c]⟩ = V.str ⟨#[d]⟩) := by
                show apartS z1 z2 = _
                unfold apartS
                rw [ec, ed, dec_strV]
                by_cases q : c = d
                · rw [q]; simp
                · simp [q]
              rw [e3] at k'
              exact k'
/-- a delay, as the words' own functions take it -/
structure GapOk (K : PySem.W.Frag) (H : Hp) (t : Addr) (a b : Str) : Prop where
  at_ : SqT K H t [.str a, .str b]
  l : W a
  r : W b
  ap : apartS a b = true
theorem GapOk.v {K : PySem.W.Frag} {H : Hp} {t : Addr} {a b : Str} (h : GapOk K H t a b) : DelayV K H (.ref t) true :=
  .inr (.inr ⟨t, _, _, true, true, rfl, h.at_, .inl ⟨a, rfl, h.l.sz, h.l.word⟩, .inl ⟨b, rfl, h.r.sz, h.r.word⟩, by show true = (true && true && apartS a b); rw [h.ap]; rfl⟩)
theorem GapOk.same {K : PySem.W.Frag} {H H' : Hp} {t : Addr} {a b : Str} (h : GapOk K H t a b) (S : Same H H') : GapOk K H' t a b := ⟨sqT_same S h.at_, h.l, h.r, h.ap⟩
theorem gap_ok {K : PySem.W.Frag} {H : Hp} {t : Addr} {x y : Str} (wx : W x) (wy : W y) (h : H t = some (.tup [.str (ovL x y), .str (ovR x y)])) : GapOk K H t (ovL x y) (ovR x y) := ⟨SqT.of h, wx.ovL, wy.ovR, gap_apart x y⟩
theorem ok_check_word {f : Addr} {fd : FuncData} (F : FnP K "_check_word" s__check_word f fd) (T : TP K mg) : FnOk P w K mg base CX0 2 f fd ["value"] (fun vs H Q _ => ∃ z : Str, vs = [.str z] ∧ W z ∧ Q .non H) := by
  obtain ⟨d_is_word, F_is_word⟩ := T.f_is_word
  have G_is_word := ok_is_word (P := P) (w := w) (base := base) F_is_word T
  have b_is_word : Binds K d_is_word ["value"] [] := F_is_word.bindsN fun _ _ _ _ _ _ us hl => match us, hl with | [_], _ => rfl
  refine F.ok sc__check_word (fun vs H Q E h => ?_) (fun cdv A outer s H vs Q E hr h => ?_)
  · obtain ⟨z, rfl, _⟩ := h
    rfl
  · obtain ⟨z, rfl, hz, k⟩ := h
    have nd := sc__check_word.nd
    refine ⟨_, PSs.nox (pss_one (ps_if (pt_not (pt_val (pe_call G_is_word (hr.mono (by decide)) rfl T.g_is_word F_is_word.kp b_is_word .nil pass0 (pa_cons (pv 0) pa_nil)))) (pss_one ps_never) pss_nil)), ?_⟩
    refine ⟨_, rfl, _, rfl, .inl ⟨z, rfl, hz.sz, ?_⟩⟩
    rw [hz.word]
    exact ⟨_, rfl, iteF k⟩
theorem ok_check_delay {f : Addr} {fd : FuncData} (F : FnP K "_check_delay" s__check_delay f fd) (T : TP K mg) : FnOk P w K mg base CX0 3 f fd ["value"] (fun vs H Q _ => ∃ (t : Addr) (a b : Str), vs = [.ref t] ∧ GapOk K H t a b ∧ ∀ H', Same H H' → Q .non H') := by
  obtain ⟨d_is_delay, F_is_delay⟩ := T.f_is_delay
  have G_is_delay := ok_is_delay (P := P) (w := w) (base := base) F_is_delay T
  have b_is_delay : Binds K d_is_delay ["value"] [] := F_is_delay.bindsN fun _ _ _ _ _ _ us hl => match us, hl with | [_], _ => rfl
  refine F.ok sc__check_delay (fun vs H Q E h => ?_) (fun cdv A outer s H vs Q E hr h => ?_)
  · obtain ⟨t, a, b, rfl, _⟩ := h
    rfl
  · obtain ⟨t, a, b, rfl, hg, k⟩ := h
    have nd := sc__check_delay.nd
    refine ⟨_, PSs.nox (pss_one (ps_if (pt_not (pt_val (pe_call G_is_delay (hr.mono (by decide)) rfl T.g_is_delay F_is_delay.kp b_is_delay .nil pass0 (pa_cons (pv 0) pa_nil)))) (pss_one ps_never) pss_nil)), ?_⟩
    exact ⟨_, rfl, _, true, rfl, hg.v, fun H' S => ⟨_, rfl, iteF (k H' S)⟩⟩
theorem ok_delay {f : Addr} {fd : FuncData} (F : FnP K "delay" s_delay f fd) (T : TP K mg) : FnOk P w K mg base CX0 3 f fd ["word", "other"] spLeftOver := by
  obtain ⟨d__check_word, F__check_word⟩ := T.f__check_word
  have G__check_word := ok_check_word (P := P) (w := w) (base := base) F__check_word T
  have b__check_word : Binds K d__check_word ["value"] [] := F__check_word.bindsN fun _ _ _ _ _ _ us hl => match us, hl with | [_], _ => rfl
  obtain ⟨d_left_over, F_left_over⟩ := T.f_left_over
  have G_left_over := ok_left_over (P := P) (w := w) (base := base) F_left_over T
  have b_left_over : Binds K d_left_over ["word", "other"] [] := F_left_over.bindsN fun _ _ _ _ _ _ us hl => match us, hl with | [_, _], _ => rfl
  refine F.ok sc_delay (fun vs H Q E h => ?_) (fun cdv A outer s H vs Q E hr h => ?_)
  · obtain ⟨x, y, rfl, _⟩ := h
    rfl
  · obtain ⟨x, y, rfl, wx, wy, k⟩ := h
    have nd := sc_delay.nd
    refine ⟨_, PSs.nox (pss_cons (ps_expr (pe_call G__check_word (hr.mono (by decide)) rfl T.g__check_word F__check_word.kp b__check_word .nil pass0 (pa_cons (pv 0) pa_nil)))
      (pss_cons (ps_expr (pe_call G__check_word (hr.mono (by decide)) rfl T.g__check_word F__check_word.kp b__check_word .nil pass0 (pa_cons (pv 1) pa_nil)))
      (pss_one (ps_ret (pe_call G_left_over (hr.mono (by decide)) rfl T.g_left_over F_left_over.kp b_left_over .nil pass0 (pa_cons (pv 0) (pa_cons (pv 1) pa_nil))))))), ?_⟩
    exact ⟨_, rfl, x, rfl, wx, _, rfl, y, rfl, wy, _, rfl, _, rfl, x, y, rfl, wx, wy, k⟩
theorem ok_distance {f : Addr} {fd : FuncData} (F : FnP K "distance" s_distance f fd) (T : TP K mg) : FnOk P w K mg base CX0 3 f fd ["word", "other"] (fun vs H Q _ => ∃ x y : Str, vs = [.str x, .str y] ∧ W x ∧ W y ∧ ∀ H', Same H H' → Q (.int (dist x y : Nat)) H') := by
  obtain ⟨d__check_word, F__check_word⟩ := T.f__check_word
  have G__check_word := ok_check_word (P := P) (w := w) (base := base) F__check_word T
  have b__check_word : Binds K d__check_word ["value"] [] := F__check_word.bindsN fun _ _ _ _ _ _ us hl => match us, hl with | [_], _ => rfl
  obtain ⟨d_left_over, F_left_over⟩ := T.f_left_over
  have G_left_over := ok_left_over (P := P) (w := w) (base := base) F_left_over T
  have b_left_over : Binds K d_left_over ["word", "other"] [] := F_left_over.bindsN fun _ _ _ _ _ _ us hl => match us, hl with | [_, _], _ => rfl
  refine F.ok sc_distance (fun vs H Q E h => ?_) (fun cdv A outer s H vs Q E hr h => ?_)
  · obtain ⟨x, y, rfl, _⟩ := h
    rfl
  · obtain ⟨x, y, rfl, wx, wy, k⟩ := h
    have nd := sc_distance.nd
    refine ⟨_, PSs.nox (pss_cons (ps_expr (pe_call G__check_word (hr.mono (by decide)) rfl T.g__check_word F__check_word.kp b__check_word .nil pass0 (pa_cons (pv 0) pa_nil)))
      (pss_cons (ps_expr (pe_call G__check_word (hr.mono (by decide)) rfl T.g__check_word F__check_word.kp b__check_word .nil pass0 (pa_cons (pv 1) pa_nil)))
      (pss_cons (ps_asg (pe_call G_left_over (hr.mono (by decide)) rfl T.g_left_over F_left_over.kp b_left_over .nil pass0 (pa_cons (pv 0) (pa_cons (pv 1) pa_nil))) (pg_tup (by rfl) (pgs_cons (pg_name (i := 2) nd rfl (.inl rfl)) (pgs_cons (pg_name (i := 3) nd rfl (.inl rfl)) pgs_nil))))
      (pss_one (ps_ret (pe_op op_add (pe_callB call_len (by rfl) T.b_len (by decide +kernel) (pa_cons (pv 2) pa_nil)) (pe_callB call_len (by rfl) T.b_len (by decide +kernel) (pa_cons (pv 3) pa_nil)))))))), ?_⟩
    refine ⟨_, rfl, x, rfl, wx, _, rfl, y, rfl, wy, _, rfl, _, rfl, x, y, rfl, wx, wy, fun H' p S n hp => ?_⟩
    refine ⟨p, _, rfl, SqT.of hp, rfl, _, _, rfl, _, _, rfl, rfl, ?_⟩
    refine ⟨_, rfl, _, (ovL x y).length, rfl, ⟨wx.ovL.sz, rfl⟩, _, rfl, _, (ovR x y).length, rfl, ⟨wy.ovR.sz, rfl⟩, _, _, rfl, rfl, ?_⟩
    exact k H' S
theorem ok_ahead_by {f : Addr} {fd : FuncData} (F : FnP K "ahead_by" s_ahead_by f fd) (T : TP K mg) : FnOk P w K mg base CX0 4 f fd ["delay"] (fun vs H Q _ => ∃ (t : Addr) (a b : Str), vs = [.ref t] ∧ GapOk K H t a b ∧ ∀ H', Same H H' → Q (.int ((a.length : Int) - b.length)) H') := by
  obtain ⟨d__check_delay, F__check_delay⟩ := T.f__check_delay
  have G__check_delay := ok_check_delay (P := P) (w := w) (base := base) F__check_delay T
  have b__check_delay : Binds K d__check_delay ["value"] [] := F__check_delay.bindsN fun _ _ _ _ _ _ us hl => match us, hl with | [_], _ => rfl
  refine F.ok sc_ahead_by (fun vs H Q E h => ?_) (fun cdv A outer s H vs Q E hr h => ?_)
  · obtain ⟨t, a, b, rfl, _⟩ := h
    rfl
  · obtain ⟨t, a, b, rfl, hg, k⟩ := h
    have nd := sc_ahead_by.nd
    refine ⟨_, PSs.nox (pss_cons (ps_expr (pe_call G__check_delay (hr.mono (by decide)) rfl T.g__check_delay F__check_delay.kp b__check_delay .nil pass0 (pa_cons (pv 0) pa_nil)))
      (pss_one (ps_ret (pe_op op_sub (pe_callB call_len (by rfl) T.b_len (by decide +kernel) (pa_cons (pe_ix ix_seq (pv 0) pe_int (fun _ _ => rfl)) pa_nil)) (pe_callB call_len (by rfl) T.b_len (by decide +kernel) (pa_cons (pe_ix ix_seq (pv 0) pe_int (fun _ _ => rfl)) pa_nil)))))), ?_⟩
    refine ⟨_, rfl, t, a, b, rfl, hg, fun H' S => ?_⟩
    have ht' := (hg.same S).at_
    refine ⟨_, rfl, .inr (.inl ⟨t, _, 0, _, rfl, rfl, ht', rfl, .str a, a.length, rfl, ⟨hg.l.sz, rfl⟩, _, rfl, .inr (.inl ⟨t, _, 1, _, rfl, rfl, ht', rfl, .str b, b.length, rfl, ⟨hg.r.sz, rfl⟩, _, _, rfl, rfl, ?_⟩)⟩)⟩
    exact k H' S
theorem ok_led_on {f : Addr} {fd : FuncData} (F : FnP K "led_on" s_led_on f fd) (T : TP K mg) : FnOk P w K mg base CX0 4 f fd ["delay", "word", "other"] (fun vs H Q _ => ∃ (t : Addr) (a b x y : Str), vs = [.ref t, .str x, .str y] ∧ GapOk K H t a b ∧ W (a ++ x) ∧ W (b ++ y) ∧ W x ∧ W y ∧
    ∀ H' p, Same H H' → H p = none → H' p = some (.tup [.str (ovL (a ++ x) (b ++ y)), .str (ovR (a ++ x) (b ++ y))]) → Q (.ref p) H') := by
  obtain ⟨d__check_delay, F__check_delay⟩ := T.f__check_delay
  have G__check_delay := ok_check_delay (P := P) (w := w) (base := base) F__check_delay T
  have b__check_delay : Binds K d__check_delay ["value"] [] := F__check_delay.bindsN fun _ _ _ _ _ _ us hl => match us, hl with | [_], _ => rfl
  obtain ⟨d__check_word, F__check_word⟩ := T.f__check_word
  have G__check_word := ok_check_word (P := P) (w := w) (base := base) F__check_word T
  have b__check_word : Binds K d__check_word ["value"] [] := F__check_word.bindsN fun _ _ _ _ _ _ us hl => match us, hl with | [_], _ => rfl
  obtain ⟨d_left_over, F_left_over⟩ := T.f_left_over
  have G_left_over := ok_left_over (P := P) (w := w) (base := base) F_left_over T
  have b_left_over : Binds K d_left_over ["word", "other"] [] := F_left_over.bindsN fun _ _ _ _ _ _ us hl => match us, hl with | [_, _], _ => rfl
  refine F.ok sc_led_on (fun vs H Q E h => ?_) (fun cdv A outer s H vs Q E hr h => ?_)
  · obtain ⟨t, a, b, x, y, rfl, _⟩ := h
    rfl
  · obtain ⟨t, a, b, x, y, rfl, hg, wax, wby, wx, wy, k⟩ := h
    have nd := sc_led_on.nd
    refine ⟨_, PSs.nox (pss_cons (ps_expr (pe_call G__check_delay (hr.mono (by decide)) rfl T.g__check_delay F__check_delay.kp b__check_delay .nil pass0 (pa_cons (pv 0) pa_nil)))
      (pss_cons (ps_expr (pe_call G__check_word (hr.mono (by decide)) rfl T.g__check_word F__check_word.kp b__check_word .nil pass0 (pa_cons (pv 1) pa_nil)))
      (pss_cons (ps_expr (pe_call G__check_word (hr.mono (by decide)) rfl T.g__check_word F__check_word.kp b__check_word .nil pass0 (pa_cons (pv 2) pa_nil)))
      (pss_one (ps_ret (pe_call G_left_over (hr.mono (by decide)) rfl T.g_left_over F_left_over.kp b_left_over .nil pass0 (pa_cons (pe_op op_add_str (pe_ix ix_seq (pv 0) pe_int (fun _ _ => rfl)) (pv 1)) (pa_cons (pe_op op_add_str (pe_ix ix_seq (pv 0) pe_int (fun _ _ => rfl)) (pv 2)) pa_nil)))))))), ?_⟩
    refine ⟨_, rfl, t, a, b, rfl, hg, fun H' S => ?_⟩
    have ht' := (hg.same S).at_
    refine ⟨_, rfl, x, rfl, wx, _, rfl, y, rfl, wy, ?_⟩
    refine ⟨_, rfl, .inr (.inl ⟨t, _, 0, _, rfl, rfl, ht', rfl, _, rfl, a, x, rfl, rfl, ?_, _, rfl, .inr (.inl ⟨t, _, 1, _, rfl, rfl, ht', rfl, _, rfl, b, y, rfl, rfl, ?_, ?_⟩)⟩)⟩
    · have := wax.sz
      rw [app_len] at this
      exact this
    · have := wby.sz
      rw [app_len] at this
      exact this
    · exact ⟨_, _, rfl, wax, wby, fun H2 p S2 n hp => k H2 p (S.trans S2) (S.free n) hp⟩
end
end K0
-- K1Com
set_option maxRecDepth 100000
set_option maxHeartbeats 1000000
namespace K0
open PySem L2 FM He StX
/-! calls of defs with a star parameter, by position -/
section
variable {X : Cx} {CX : CXT} {k : Nat} {f : Addr} {sp : Sp} {E : XK} {x : Str} {p pos : Pos} {e : Expr} {es : List Expr} {t : TA}
def tCallF (sp : Sp) (E : XK) (t : TA) : L2.TE := fun σ H Q => t σ H fun vs H1 => sp vs H1 Q E
theorem pe_callF (F : FnR X.prog X.w X.K X.mg X.base CX k f sp) (hr : Room k X.A) (hg : Gl X x) (hm : X.mg x = some (.ref f)) (hk : PySem.W.keepIn X.K (.ref f) = true) (hx : Passes CX X E) (ha : PA X (e :: es) t)
    (hdb : (x == ("__debug__" : Str)) = false := by decide) (he : starEach (e :: es) X.env = (false, eval e X.env) :: starEach es X.env := by rfl) (hpl : (backTo pos (starEach es X.env)).any (·.1) = false := by rfl) :
    PE X (.Call (.Name x p) (e :: es) [] pos) (tCallF sp E t) := by
  refine ⟨fun pins s σ H Q I h => wpAny_Call_Name_kw (ld_glob I hg hm ?_ hdb)⟩
  refine PySem.W.callWith_K (h₀ := X.base) I.ok.mod.kin hk (thn (ha.run pos pins s σ H _ I h) ?_) he hpl
  rintro us s1 ⟨vs, H1, I1, r, q⟩
  exact ⟨I1.kIn, wpAny_call (run_fnR F hr hx I1 r q)⟩
end
/-- words in a tuple or a list -/
def AllW (ks : List Str) : Prop := ∀ k ∈ ks, W k
theorem AllW.get {ks : List Str} (h : AllW ks) {v : V} (m : v ∈ ks.map V.str) : ∃ z, v = .str z ∧ W z := by
  obtain ⟨z, hz, e⟩ := List.mem_map.mp m
  exact ⟨z, e.symm, h z hz⟩
def spCom (K : PySem.W.Frag) : Sp := fun vs H Q _ => ∃ (p : Addr) (ks : List Str), vs = [.ref p] ∧ SqT K H p (ks.map V.str) ∧ ks ≠ [] ∧ AllW ks ∧ ∀ H', Same H H' → Q (.str (comAll ks)) H'
section
variable {P : Program} {w : World} {K : PySem.W.Frag} {mg : Str → Option Value} {base : Heap}
theorem ok_shared_beginning {f : Addr} {fd : FuncData} (F : FnP K "shared_beginning" s_shared_beginning f fd) (T : TP K mg) : FnOk P w K mg base CX0 2 f fd ["words"] (spCom K) := by
  obtain ⟨d__shared, F__shared⟩ := T.f__shared
  have G__shared := ok_shared (P := P) (w := w) (base := base) F__shared T
  have b__shared : Binds K d__shared ["word", "other"] [] := F__shared.bindsN fun _ _ _ _ _ _ us hl => match us, hl with | [_, _], _ => rfl
  refine F.ok sc_shared_beginning (fun vs H Q E h => ?_) (fun cdv A outer s H vs Q E hr h => ?_)
  · obtain ⟨p, ks, rfl, _⟩ := h
    rfl
  · obtain ⟨p, ks, rfl, hp, ne, hw, k⟩ := h
    have nd := sc_shared_beginning.nd
    obtain ⟨z0, r, rfl⟩ := List.exists_cons_of_ne_nil ne
    refine ⟨_, PSs.nox (pss_cons (ps_set (i := 1) nd rfl (.inl rfl) (pe_ix ix_seq (pv 0) pe_int (fun _ _ => rfl)))
      (pss_cons (ps_for PassesOwn.never rfl (pi_tup (pv 0)) (pg_name (i := 2) nd rfl (.inl rfl)) (pss_one (ps_set (i := 1) nd rfl (.inl rfl) (pe_slice sl_str (pv 1) po_none (po_some (pe_call G__shared (hr.mono (by decide)) rfl T.g__shared F__shared.kp b__shared .nil pass0 (pa_cons (pv 1) (pa_cons (pv 2) pa_nil))))))))
      (pss_one (ps_ret (pv 1))))), ?_⟩
    refine ⟨_, rfl, .inr (.inl ⟨p, _, 0, _, rfl, rfl, hp, atI_nat (j := 0) rfl, ?_⟩)⟩
    refine ⟨_, rfl, p, rfl, ⟨_, hp⟩, ?_⟩
    refine for_tup (K := K) (xs := (z0 :: r).map V.str) (fun n σ H1 => (∃ u, σ = [some (.ref p), some (.str (((z0 :: r).take n).foldl comS z0)), u] ∧ W (((z0 :: r).take n).foldl comS z0)) ∧ Same H H1) ⟨⟨_, rfl, hw _ List.mem_cons_self⟩, Same.refl _⟩ (fun _ _ _ _ q => sqT_same q.2 hp) ?_ ?_
    · rintro n y σ H1 hy ⟨⟨u, rfl, hz⟩, S⟩
      rw [List.getElem?_map] at hy
      obtain ⟨zy, hzy, rfl⟩ := Option.map_eq_some_iff.mp hy
      have wy : W zy := hw zy (List.mem_of_getElem? hzy)
      refine ⟨_, rfl, ?_⟩
      refine ⟨_, rfl, _, rfl, _, zy, rfl, hz.sz, wy.sz, fun H2 S2 => ⟨_, rfl, _, rfl, hz.sz, ?_⟩⟩
      have e : ((z0 :: r).take (n + 1)).foldl comS z0 = comS (((z0 :: r).take n).foldl comS z0) zy := by
        rw [List.take_add_one, hzy, List.foldl_append]
        rfl
      rw [comS_cut, ← e]
      exact ⟨⟨_, rfl, by rw [e]; exact hz.comS⟩, S.trans S2⟩
    · rintro σ H1 ⟨⟨u, rfl, hz⟩, S⟩
      refine ⟨_, rfl, ?_⟩
      have e : ((z0 :: r).take ((z0 :: r).map V.str).length).foldl comS z0 = comAll (z0 :: r) := by
        rw [List.length_map, List.take_length]
        show (z0 :: r).foldl comS z0 = r.foldl comS z0
        rw [List.foldl_cons, comS_self]
      rw [e]
      exact k H1 S
theorem body_common {f : Addr} {cdv : Value} {A : Around} {outer : List Env} {s : Shared} {H : Hp} {vs : List V} {Q : VK} {E : XK} (T : TP K mg)
    (hr : Room 2 (A.deeper (PyProof.Rows.envOfC "common_beginning" (defScope s_common_beginning) s.heap.objs.size f cdv))) (h : spCom K vs H Q E) :
    ∃ t, PSs (cxOf CX0 P w K mg base ["words", "word"] "common_beginning" (defScope s_common_beginning) f cdv A outer s H E) (defBody s_common_beginning) t ∧ t { nx := fun _ H' => Q .non H', rt := Q } (L2.start ["words", "word"] vs) H := by
  obtain ⟨d_shared_beginning, F_shared_beginning⟩ := T.f_shared_beginning
  have G_shared_beginning := ok_shared_beginning (P := P) (w := w) (base := base) F_shared_beginning T
  have b_shared_beginning : Binds K d_shared_beginning ["words"] [] := F_shared_beginning.bindsN fun _ _ _ _ _ _ us hl => match us, hl with | [_], _ => rfl
  obtain ⟨d__check_word, F__check_word⟩ := T.f__check_word
  have G__check_word := ok_check_word (P := P) (w := w) (base := base) F__check_word T
  have b__check_word : Binds K d__check_word ["value"] [] := F__check_word.bindsN fun _ _ _ _ _ _ us hl => match us, hl with | [_], _ => rfl
  obtain ⟨p, ks, rfl, hp, ne, hw, k⟩ := h
  have nd := sc_common_beginning.nd
  refine ⟨_, PSs.nox (pss_cons (ps_if (pt_not (pt_truth (pv 0) (by intro _; rfl))) (pss_one ps_never) pss_nil)
      (pss_cons (ps_for PassesOwn.never rfl (pi_tup (pv 0)) (pg_name (i := 1) nd rfl (.inl rfl)) (pss_one (ps_expr (pe_call G__check_word (hr.mono (by decide)) rfl T.g__check_word F__check_word.kp b__check_word .nil pass0 (pa_cons (pv 1) pa_nil)))))
      (pss_one (ps_ret (pe_call G_shared_beginning (hr.mono (by decide)) rfl T.g_shared_beginning F_shared_beginning.kp b_shared_beginning .nil pass0 (pa_cons (pv 0) pa_nil)))))), ?_⟩
  obtain ⟨z0, r, rfl⟩ := List.exists_cons_of_ne_nil ne
  refine ⟨_, rfl, true, .inr (.inl ⟨_, hp, rfl⟩), iteF ?_⟩
  refine ⟨_, rfl, p, rfl, ⟨_, hp⟩, ?_⟩
  refine for_tup (K := K) (xs := (z0 :: r).map V.str) (fun n σ H1 => (∃ u, σ = [some (.ref p), u]) ∧ Same H H1) ⟨⟨_, rfl⟩, Same.refl _⟩ (fun _ _ _ _ q => sqT_same q.2 hp) ?_ ?_
  · rintro n y σ H1 hy ⟨⟨u, rfl⟩, S⟩
    obtain ⟨z, rfl, wz⟩ := hw.get (List.mem_of_getElem? hy)
    exact ⟨_, rfl, z, rfl, wz, ⟨_, rfl⟩, S⟩
  · rintro σ H1 ⟨⟨u, rfl⟩, S⟩
    exact ⟨_, rfl, p, _, rfl, sqT_same S hp, ne, hw, fun H2 S2 => k H2 (S.trans S2)⟩
theorem okr_common_beginning {f : Addr} {fd : FuncData} (F : FnP K "common_beginning" s_common_beginning f fd) (T : TP K mg) :
    FnR P w K mg base CX0 3 f (fun vs H Q _ => ∃ ks : List Str, vs = ks.map V.str ∧ ks ≠ [] ∧ ks.length ≤ 1000 ∧ AllW ks ∧ ∀ H', Same H H' → Q (.str (comAll ks)) H') := by
  obtain ⟨oc, od, dV, kV, doc, pm, an, cdv, ct, osl, rfl, lk, hcd, hdf, _⟩ := F.ex
  obtain rfl : dV = .none := by
    rcases hdf with ⟨_, e⟩ | ⟨e, _⟩
    · exact e
    · exact absurd rfl e
  have b0 : ∀ us rest : List Value, us.length = ([] : List Str).length → bindArgs (PySem.W.fnOf "common_beginning" "common_beginning" (defArgs s_common_beginning) (defBody s_common_beginning) (defScope s_common_beginning) .none kV doc pm an cdv ct) ⟨us ++ rest, []⟩ =
      (newTuple rest >>= fun t => pure (([] : List Str).zip us ++ [(("words" : Str), t)]))
    | [], [], _ => rfl
    | [], r :: rs, _ => rfl
  have R := StX.fn_star (P := P) (w := w) (mg := mg) (base := base) (CX := CX0) (k := 2) (ps := []) (pv := "words") (sp := spCom K) lk hcd sc_common_beginning StX.cxUp_none b0 (fun A outer s H vs Q E hr h => body_common T hr h)
  intro A outer s H us vs Q E hr e0 r h
  obtain ⟨ks, rfl, ne, hl, hw, k⟩ := h
  refine R A outer s H us _ Q E hr e0 r ⟨[], _, rfl, rfl, by rw [List.length_map, sizeLine_eq]; omega, fun p np => ⟨p, ks, rfl, SqT.of upd_same, ne, hw, fun H' S => k H' ((same_upd np).trans S)⟩⟩
end
end K0
-- K1Num
set_option maxRecDepth 100000
set_option maxHeartbeats 1000000
namespace K0
open PySem L2 FM He
/-- one to four ascending letters, of a word -/
def lettersB (z : Str) : Bool := decide (1 ≤ z.length) && decide (z.length ≤ 4) && PyProof.Rows.sortedS (FM.signs z) && decide (FM.signs z).Nodup
section
variable {P : Program} {w : World} {K : PySem.W.Frag} {mg : Str → Option Value} {base : Heap}
theorem ok_is_integer {f : Addr} {fd : FuncData} (F : FnP K "is_integer" s_is_integer f fd) (T : TP K mg) : FnOk P w K mg base CX0 1 f fd ["value"] (fun vs H Q _ => ∃ i : Int, vs = [.int i] ∧ Q (.bl true) H) := by
  refine F.ok sc_is_integer (fun vs H Q E h => ?_) (fun cdv A outer s H vs Q E hr h => ?_)
  · obtain ⟨i, rfl, _⟩ := h
    rfl
  · obtain ⟨i, rfl, k⟩ := h
    have nd := sc_is_integer.nd
    refine ⟨_, PSs.nox (pss_one (ps_ret (pe_and (pe_callB call_isi (by rfl) T.b_isinstance (by decide +kernel) (pa_cons (pv 0) (pa_cons (pe_bltn (v := .ty "int") (by rfl) T.b_int (by decide +kernel) rfl) pa_nil))) (pe_one (pe_not (pe_callB call_isi (by rfl) T.b_isinstance (by decide +kernel) (pa_cons (pv 0) (pa_cons (pe_bltn (v := .ty "bool") (by rfl) T.b_bool (by decide +kernel) rfl) pa_nil)))))))), ?_⟩
    refine ⟨_, rfl, _, _, _, _, true, rfl, ClsV.ty _, .base (.int i), kit_ty (by decide +kernel), true, rfl, iteT ?_⟩
    exact ⟨_, rfl, _, _, _, _, false, rfl, ClsV.ty _, .base (.int i), kit_ty (by decide +kernel), false, rfl, k⟩
theorem ok_is_below {f : Addr} {fd : FuncData} (F : FnP K "is_below" s_is_below f fd) (T : TP K mg) : FnOk P w K mg base CX0 2 f fd ["value", "limit"] (fun vs H Q _ => ∃ i n : Int, vs = [.int i, .int n] ∧ 0 ≤ i ∧ i < n ∧ Q (.bl true) H) := by
  obtain ⟨d_is_integer, F_is_integer⟩ := T.f_is_integer
  have G_is_integer := ok_is_integer (P := P) (w := w) (base := base) F_is_integer T
  have b_is_integer : Binds K d_is_integer ["value"] [] := F_is_integer.bindsN fun _ _ _ _ _ _ us hl => match us, hl with | [_], _ => rfl
  refine F.ok sc_is_below (fun vs H Q E h => ?_) (fun cdv A outer s H vs Q E hr h => ?_)
  · obtain ⟨i, n, rfl, _⟩ := h
    rfl
  · obtain ⟨i, n, rfl, h0, h1, k⟩ := h
    have nd := sc_is_below.nd
    refine ⟨_, PSs.nox (pss_one (ps_ret (pe_and (pe_call G_is_integer (hr.mono (by decide)) rfl T.g_is_integer F_is_integer.kp b_is_integer .nil pass0 (pa_cons (pv 0) pa_nil)) (pe_one (pe_chain op_le op_lt pe_int (pv 0) (pv 1)))))), ?_⟩
    refine ⟨_, rfl, i, rfl, true, rfl, iteT ?_⟩
    refine ⟨_, rfl, _, _, rfl, rfl, _, rfl, ?_⟩
    rw [decide_eq_true h0]
    refine iteT ⟨_, rfl, _, _, rfl, rfl, ?_⟩
    show Q (.bl (decide (i < n))) H
    rw [decide_eq_true h1]
    exact k
theorem ok_check_length {f : Addr} {fd : FuncData} (F : FnP K "check_length" s_check_length f fd) (T : TP K mg) : FnOk P w K mg base CX0 3 f fd ["length"] (fun vs H Q _ => ∃ i : Int, vs = [.int i] ∧ 0 ≤ i ∧ i ≤ 60 ∧ Q .non H) := by
  obtain ⟨d_is_below, F_is_below⟩ := T.f_is_below
  have G_is_below := ok_is_below (P := P) (w := w) (base := base) F_is_below T
  have b_is_below : Binds K d_is_below ["value", "limit"] [] := F_is_below.bindsN fun _ _ _ _ _ _ us hl => match us, hl with | [_, _], _ => rfl
  refine F.ok sc_check_length (fun vs H Q E h => ?_) (fun cdv A outer s H vs Q E hr h => ?_)
  · obtain ⟨i, rfl, _⟩ := h
    rfl
  · obtain ⟨i, rfl, h0, h1, k⟩ := h
    have nd := sc_check_length.nd
    refine ⟨_, PSs.nox (pss_one (ps_if (pt_not (pt_val (pe_call G_is_below (hr.mono (by decide)) rfl T.g_is_below F_is_below.kp b_is_below .nil pass0 (pa_cons (pv 0) (pa_cons (pe_op op_add (C8.pe_gc (v := .int 60) (by rfl) T.c_MAX_TEXT) pe_int) pa_nil))))) (pss_one ps_never) pss_nil)), ?_⟩
    exact ⟨_, rfl, _, _, rfl, rfl, _, _, rfl, h0, by show i < 60 + 1; omega, ⟨_, rfl, iteF k⟩⟩
theorem ok_is_letters {f : Addr} {fd : FuncData} (F : FnP K "is_letters" s_is_letters f fd) (T : TP K mg) : FnOk P w K mg base CX0 2 f fd ["value"] (fun vs H Q _ => ∃ z : Str, vs = [.str z] ∧ isWord z = true ∧ lettersB z = true ∧ ∀ H', Same H H' → Q (.bl true) H') := by
  obtain ⟨d_is_word, F_is_word⟩ := T.f_is_word
  have G_is_word := ok_is_word (P := P) (w := w) (base := base) F_is_word T
  have b_is_word : Binds K d_is_word ["value"] [] := F_is_word.bindsN fun _ _ _ _ _ _ us hl => match us, hl with | [_], _ => rfl
  refine F.ok sc_is_letters (fun vs H Q E h => ?_) (fun cdv A outer s H vs Q E hr h => ?_)
  · obtain ⟨z, rfl, _⟩ := h
    rfl
  · obtain ⟨z, rfl, hw, hl, k⟩ := h
    have nd := sc_is_letters.nd
    have hu64 := hr.units
    unfold lettersB at hl
    simp only [Bool.and_eq_true, decide_eq_true_eq] at hl
    obtain ⟨⟨⟨h1, h4⟩, hs⟩, hd⟩ := hl
    have hz : z.length ≤ sizeLine := by rw [sizeLine_eq]; omega
    refine ⟨_, PSs.nox (pss_cons (ps_if (PW.pt (pw_or (pt_not (pt_val (pe_call G_is_word (hr.mono (by decide)) rfl T.g_is_word F_is_word.kp b_is_word .nil pass0 (pa_cons (pv 0) pa_nil)))) (pw_or1 (pt_not (pt_chain op_le op_le pe_int (pe_callB call_len (by rfl) T.b_len (by decide +kernel) (pa_cons (pv 0) pa_nil)) (C8.pe_gc (v := .int 4) (by rfl) T.c__MOST_LETTERS)))))) (pss_one (ps_ret pe_bl)) pss_nil)
      (pss_one (ps_ret (pe_cmpR (op_eqS hu64) (pe_callTy (cr_listStr rfl) (by rfl) T.b_list (by decide +kernel) (pa_cons (pv 0) pa_nil)) (pe_callB (cr_sortSetT rfl) (by rfl) T.b_sorted (by decide +kernel) (pa_cons (pe_callTy (cr_setStr rfl) (by rfl) T.b_set (by decide +kernel) (pa_cons (pv 0) pa_nil)) pa_nil)) (nomark _))))), ?_⟩
    refine ⟨_, rfl, _, rfl, .inl ⟨z, rfl, hz, ?_⟩⟩
    rw [hw]
    refine ⟨_, rfl, iteF ?_⟩
    refine ⟨_, rfl, _, z.length, rfl, ⟨hz, rfl⟩, 1, _, rfl, rfl, _, rfl, ?_⟩
    rw [decide_eq_true (by omega : (1 : Int) ≤ ((z.length : Nat) : Int))]
    refine iteT ⟨_, _, rfl, rfl, _, rfl, ?_⟩
    rw [decide_eq_true (by omega : ((z.length : Nat) : Int) ≤ 4)]
    refine iteF ⟨_, rfl, _, rfl, hz, fun p np => ?_⟩
    have S1 := same_upd (o := .lst ((FM.signs z).map V.str)) np
    refine ⟨_, rfl, z, rfl, by omega, fun p1 n np1 hn => ?_⟩
    have S2 := same_upd (o := SetT w p1 (fun j => decide (j ∈ FM.signs z)) n) np1
    refine ⟨p1, _, n, rfl, upd_same, by omega, fun ks p2 hs2 hd2 hm hl np2 => ?_⟩
    have S3 := same_upd (o := .lst (ks.map V.str)) np2
    have e2 : FM.signs z = ks := sorted_one hs hd hs2 hd2 fun j => by simpa using (hm j).symm
    exact ⟨p, p2, FM.signs z, ks, rfl, rfl, .of (S3 _ _ (S2 _ _ upd_same)), .of upd_same, by rw [decide_eq_true e2]; exact k _ ((S1.trans S2).trans S3)⟩
/-- the different ones of some words, in order -/
def orderOf (ks : List Str) (ls : List Str) : Prop := PyProof.Rows.sortedS ls = true ∧ ls.Nodup ∧ ∀ k, k ∈ ls ↔ k ∈ ks
theorem order_one {ks ks' ls ls' : List Str} (h : orderOf ks ls) (h' : orderOf ks' ls') (m : ∀ k, k ∈ ks ↔ k ∈ ks') : ls = ls' :=
  sorted_one h.1 h.2.1 h'.1 h'.2.1 fun k => by rw [h.2.2, h'.2.2, m]
def spSorted (K : PySem.W.Frag) : Sp := fun vs H Q _ => ∃ (t : Addr) (ks : List Str), vs = [.ref t] ∧ SqT K H t (ks.map V.str) ∧ ks.length ≤ 60 ∧ AllW ks ∧ ∀ ls p H', orderOf ks ls → Same H H' → H' p = some (.tup ((byLen ls).map V.str)) → Q (.ref p) H'
theorem ok_sorted_words {f : Addr} {fd : FuncData} (F : FnP K "sorted_words" s_sorted_words f fd) (T : TP K mg) : FnOk P w K mg base CX0 1 f fd ["words"] (spSorted K) := by
  refine F.ok sc_sorted_words (fun vs H Q E h => ?_) (fun cdv A outer s H vs Q E hr h => ?_)
  · obtain ⟨t, ks, rfl, _⟩ := h
    rfl
  · obtain ⟨t, ks, rfl, ht, hl, hz, k⟩ := h
    have nd := sc_sorted_words.nd
    have hu64 := hr.units
    refine ⟨_, PSs.nox (pss_one (ps_ret (pe_callTy call_tuple_of (by rfl) T.b_tuple (by decide +kernel) (pa_cons (pe_sortLen (Nat.lt_of_le_of_lt (Nat.add_le_add_left (by decide : 10 ≤ 64) _) hu64) (by rfl) T.b_sorted (by rfl) T.b_len (pe_callB (cr_sortSetT rfl) (by rfl) T.b_sorted (by decide +kernel) (pa_cons (pe_callTy (cr_setTup rfl) (by rfl) T.b_set (by decide +kernel) (pa_cons (pv 0) pa_nil)) pa_nil))) pa_nil)))), ?_⟩
    refine ⟨_, rfl, t, ks, rfl, ht, by omega, fun p n np hn => ?_⟩
    have S1 := same_upd (o := SetT w p (fun j => decide (j ∈ ks)) n) np
    refine ⟨p, _, n, rfl, upd_same, by omega, fun ls p1 hs hd hm hl1 np1 => ?_⟩
    have S2 := same_upd (o := .lst (ls.map V.str)) np1
    have hm' : ∀ k, k ∈ ls ↔ k ∈ ks := fun j => by simpa using hm j
    refine ⟨p1, ls, rfl, .of upd_same, by omega, fun j hj => (hz j ((hm' j).mp hj)).sz, fun p2 np2 => ?_⟩
    have S3 := same_upd (o := .lst ((byLen ls).map V.str)) np2
    refine ⟨p2, _, rfl, .inl ⟨.of upd_same, fun p3 np3 => ?_⟩⟩
    exact k ls _ _ ⟨hs, hd, hm'⟩ (((S1.trans S2).trans S3).trans (same_upd np3)) upd_same
theorem ok_in_order {f : Addr} {fd : FuncData} (F : FnP K "in_order" s_in_order f fd) (T : TP K mg) : FnOk P w K mg base CX0 2 f fd ["texts"] (spSorted K) := by
  obtain ⟨d_sorted_words, F_sorted_words⟩ := T.f_sorted_words
  have G_sorted_words := ok_sorted_words (P := P) (w := w) (base := base) F_sorted_words T
  have b_sorted_words : Binds K d_sorted_words ["words"] [] := F_sorted_words.bindsN fun _ _ _ _ _ _ us hl => match us, hl with | [_], _ => rfl
  obtain ⟨d_is_word, F_is_word⟩ := T.f_is_word
  have G_is_word := ok_is_word (P := P) (w := w) (base := base) F_is_word T
  have b_is_word : Binds K d_is_word ["value"] [] := F_is_word.bindsN fun _ _ _ _ _ _ us hl => match us, hl with | [_], _ => rfl
  refine F.ok sc_in_order (fun vs H Q E h => ?_) (fun cdv A outer s H vs Q E hr h => ?_)
  · obtain ⟨t, ks, rfl, _⟩ := h
    rfl
  · obtain ⟨t, ks, rfl, ht, hl, hw, k⟩ := h
    have nd := sc_in_order.nd
    refine ⟨_, PSs.nox (pss_cons (ps_if (PW.pt (pw_or (pt_not (pt_val (pe_callB call_isi (by rfl) T.b_isinstance (by decide +kernel) (pa_cons (pv 0) (pa_cons (pe_bltn (v := .ty "tuple") (by rfl) T.b_tuple (by decide +kernel) rfl) pa_nil))))) (pw_or1 (pt_not (pt_val (pe_callB (cr_all rfl) (by rfl) T.b_all (by decide +kernel) (pa_cons (pe_lc (own := [("text", 1)]) rfl nd (pi_tup (pv 0)) (blkOk_by (own := [("text", 1)]) (N := ["texts", "text"]) (sc := defScope s_in_order) (by decide +kernel)) (fun _ _ _ _ _ => (pg_name (i := 1) nd rfl (.inl rfl))) (fun _ _ _ _ _ => pts_nil) (fun _ _ _ _ _ => (pe_call G_is_word (hr.mono (by decide)) rfl T.g_is_word F_is_word.kp b_is_word .nil pass0 (pa_cons (pv 1) pa_nil)))) pa_nil))))))) (pss_one ps_never) pss_nil)
      (pss_one (ps_ret (pe_call G_sorted_words (hr.mono (by decide)) rfl T.g_sorted_words F_sorted_words.kp b_sorted_words .nil pass0 (pa_cons (pv 0) pa_nil))))), ?_⟩
    refine ⟨_, rfl, _, _, _, _, true, rfl, ClsV.ty _, ty_tup ht, kit_ty (by decide +kernel), _, rfl, iteF ?_⟩
    refine ⟨_, rfl, t, rfl, ⟨_, ht⟩, fun D nD => ?_⟩
    refine lc_tup (xs := ks.map V.str) (K := K) (fun i H' => Same H H' ∧ H' D = some (.lst ((List.replicate (min i ks.length) true).map V.bl))) ⟨same_upd nD, upd_same⟩ (fun i H' _ h => sqT_same h.1 ht) (fun i x H' hx hP => ?_) (fun H' hP => ?_)
    · obtain ⟨S, hD⟩ := hP
      have hi : i < ks.length := by simpa using (List.getElem?_eq_some_iff.mp hx).1
      obtain ⟨z, rfl, wz⟩ := hw.get (List.mem_of_getElem? hx)
      refine ⟨rfl, _, rfl, _, rfl, .inl ⟨z, rfl, wz.sz, ?_⟩⟩
      rw [wz.word]
      refine ⟨_, hD, ?_, fun c o hc => ?_, ?_⟩
      · rw [List.length_map, List.length_replicate, sizeLine_eq]
        omega
      · rw [upd_ne (ne_of_none hc nD)]
        exact S _ _ hc
      · rw [upd_same, Nat.min_eq_left (by omega), Nat.min_eq_left (by omega), List.replicate_succ', List.map_append]
        rfl
    · obtain ⟨S, hD⟩ := hP
      refine ⟨D, _, rfl, SqL.of hD, _, rfl, ?_⟩
      have ea : ((List.replicate (min (ks.map V.str).length ks.length) true).all id) = true := by simp
      rw [ea]
      refine iteF ?_
      exact ⟨_, rfl, t, ks, rfl, sqT_same S ht, hl, hw, fun ls p H2 ho S2 hp => k ls p _ ho (S.trans S2) hp⟩
end
end K0
-- FmBackL
set_option maxRecDepth 100000
set_option maxHeartbeats 1000000
namespace FM
open PySem PySem.Spec PyProof.Rows L2
theorem back_idx (n : Nat) : Builtin.Str.strSliceIndices none none (-1) n = (List.range n).map fun m => n - 1 - m := by
  unfold Builtin.Str.strSliceIndices
  have h1 : ¬ ((-1 : Int) > 0) := by omega
  simp only [h1, if_false]
  unfold PySem.sliceRange
  simp only [h1, if_false]
  have e1 : (if ((n : Int) - 1 > -1) then ((n : Int) - 1 - -1 - -1 - 1) / (- -1) else 0).toNat = n := by
    have e0 : (- -1 : Int) = 1 := rfl
    rw [e0]
    simp only [Int.ediv_one]
    split <;> omega
  rw [e1]
  refine List.map_congr_left fun m hm => ?_
  have := List.mem_range.mp hm
  omega
theorem backS_cps (z : Str) : (backS z).cps.toList = z.cps.toList.reverse := by
  unfold backS
  rw [back_idx]
  show ((List.range z.length).map fun m => z.length - 1 - m).filterMap (fun i => z.cps[i]?) = _
  have e : z.length = z.cps.toList.length := by simp [Str.length]
  have key : ∀ (xs : List Nat) (l : List Nat), (∀ m ∈ l, m < xs.length) → (l.map fun m => xs.length - 1 - m).filterMap (fun i => xs[i]?) = l.map fun m => xs.reverse.getD m 0 := by
    intro xs l
    induction l with
    | nil => intro _; rfl
    | cons a r ih =>
      intro h
      have ha := h a List.mem_cons_self
      have lt : xs.length - 1 - a < xs.length := by omega
      have e2 : xs[xs.length - 1 - a]? = some (xs.reverse.getD a 0) := by
        rw [List.getElem?_eq_getElem lt, List.getD_eq_getElem?_getD, List.getElem?_reverse ha, List.getElem?_eq_getElem lt]
        rfl
      rw [List.map_cons, List.filterMap_cons, e2, List.map_cons, ih fun m hm => h m (List.mem_cons_of_mem _ hm)]
  have e3 : (fun i : Nat => z.cps[i]?) = fun i : Nat => z.cps.toList[i]? := by
    funext i
    rw [Array.getElem?_toList]
  rw [e3, e, key _ _ fun m hm => List.mem_range.mp hm]
  refine List.ext_getElem (by simp) fun j h1 h2 => ?_
  rw [List.getElem_map, List.getElem_range, List.getD_eq_getElem?_getD, List.getElem?_eq_getElem h2]
  rfl
theorem backS_length (z : Str) : (backS z).length = z.length := by
  have h := congrArg List.length (backS_cps z)
  simpa [Str.length] using h
end FM
-- K1Enum
set_option maxRecDepth 100000
set_option maxHeartbeats 1000000
/-! all texts of some signs, in order -/
namespace FM
open PySem L2
theorem flatMap_same {α β : Type} {f g : α → List β} : ∀ {l : List α}, (∀ a ∈ l, f a = g a) → l.flatMap f = l.flatMap g
  | [], _ => rfl
  | a :: l, h => by rw [List.flatMap_cons, List.flatMap_cons, h a List.mem_cons_self, flatMap_same fun b hb => h b (List.mem_cons_of_mem _ hb)]
/-- a text of one sign -/
abbrev one (c : Nat) : Str := ⟨#[c]⟩
/-- what goes on from t by so many signs -/
def exps (cs : List Nat) : Nat → Str → List Str
  | 0, t => [t]
  | d + 1, t => cs.flatMap fun c => exps cs d (t ++ one c)
/-- the texts of fewer signs than i -/
def upto (cs : List Nat) : Nat → List Str
  | 0 => []
  | i + 1 => upto cs i ++ exps cs i ""
theorem one_len (c : Nat) : (one c).length = 1 := rfl
theorem exps_len (cs : List Nat) : ∀ d t, (exps cs d t).length = cs.length ^ d
  | 0, _ => rfl
  | d + 1, t => by
    have h : ∀ l : List Nat, (l.flatMap fun c => exps cs d (t ++ one c)).length = l.length * cs.length ^ d := by
      intro l
      induction l with
      | nil => simp
      | cons c r ih => rw [List.flatMap_cons, List.length_append, ih, exps_len cs d, List.length_cons, Nat.succ_mul, Nat.add_comm]
    rw [exps, h, Nat.pow_succ, Nat.mul_comm]
def tl (k : Nat) : Nat → Nat
  | 0 => 0
  | i + 1 => tl k i + k ^ i
theorem upto_len (cs : List Nat) : ∀ i, (upto cs i).length = tl cs.length i
  | 0 => rfl
  | i + 1 => by rw [upto, List.length_append, upto_len cs i, exps_len]; rfl
theorem tl_ge {k : Nat} (hk : 1 ≤ k) : ∀ i, i ≤ tl k i
  | 0 => Nat.le_refl _
  | i + 1 => by
    have h := tl_ge hk i
    have p : 0 < k ^ i := Nat.pow_pos hk
    show i + 1 ≤ tl k i + k ^ i
    omega
theorem upto_more (cs : List Nat) {i j : Nat} (h : i ≤ j) : upto cs i <+: upto cs j := by
  induction h with
  | refl => exact List.prefix_refl _
  | step _ ih => exact ih.trans (List.prefix_append ..)
/-- how many there are to look at below a text -/
def nd (k : Nat) : Nat → Nat
  | 0 => 1
  | d + 1 => 1 + k * nd k d
theorem nd_small : ∀ k ≤ 4, ∀ i ≤ 8, nd k i ≤ 87381 := by decide +kernel
theorem tl_small : ∀ k ≤ 4, ∀ i ≤ 4, tl k i ≤ 400 := by decide +kernel
theorem nd_pos (k : Nat) : ∀ d, 1 ≤ nd k d
  | 0 => Nat.le_refl _
  | d + 1 => by show 1 ≤ 1 + _; omega
/-- what the waiting texts still give, the last one first -/
def flat (cs : List Nat) (s : Nat) (ws : List Str) : List Str := ws.reverse.flatMap fun t => exps cs (s - t.length) t
def mass (k s : Nat) (ws : List Str) : Nat := (ws.map fun t => nd k (s - t.length)).sum
theorem mass_len (k s : Nat) : ∀ ws : List Str, ws.length ≤ mass k s ws
  | [] => Nat.le_refl _
  | t :: ws => by
    have h := mass_len k s ws
    have p := nd_pos k (s - t.length)
    simp only [mass, List.map_cons, List.sum_cons, List.length_cons] at h ⊢
    omega
theorem mass_app (k s : Nat) (a b : List Str) : mass k s (a ++ b) = mass k s a + mass k s b := by simp [mass]
theorem flat_push (cs : List Nat) (s : Nat) (ws : List Str) (t : Str) : flat cs s (ws ++ [t]) = exps cs (s - t.length) t ++ flat cs s ws := by simp [flat]
theorem flat_grow (cs : List Nat) (s : Nat) (ws : List Str) {t : Str} (h : t.length < s) : flat cs s (ws ++ cs.reverse.map fun c => t ++ one c) = flat cs s (ws ++ [t]) := by
  obtain ⟨d, hd⟩ : ∃ d, s - t.length = d + 1 := ⟨s - t.length - 1, by omega⟩
  rw [flat_push, hd, exps]
  unfold flat
  rw [List.reverse_append, List.flatMap_append, ← List.map_reverse, List.reverse_reverse, List.flatMap_map]
  congr 1
  refine flatMap_same ?_
  intro c _
  rw [app_len, one_len, show s - (t.length + 1) = d by omega]
theorem mass_grow (cs : List Nat) (s : Nat) (ws : List Str) {t : Str} (h : t.length < s) : mass cs.length s (ws ++ cs.reverse.map fun c => t ++ one c) + 1 = mass cs.length s (ws ++ [t]) := by
  obtain ⟨d, hd⟩ : ∃ d, s - t.length = d + 1 := ⟨s - t.length - 1, by omega⟩
  have e : ∀ l : List Nat, mass cs.length s (l.map fun c => t ++ one c) = l.length * nd cs.length d := by
    intro l
    induction l with
    | nil => simp [mass]
    | cons c r ih =>
      rw [List.map_cons]
      show mass _ _ ([t ++ one c] ++ _) = _
      rw [mass_app, ih, List.length_cons, Nat.succ_mul]
      have : mass cs.length s [t ++ one c] = nd cs.length d := by
        simp only [mass, List.map_cons, List.map_nil, List.sum_cons, List.sum_nil, Nat.add_zero]
        rw [app_len, one_len, show s - (t.length + 1) = d by omega]
      omega
  rw [mass_app, mass_app, e, List.length_reverse]
  have : mass cs.length s [t] = 1 + cs.length * nd cs.length d := by
    simp only [mass, List.map_cons, List.map_nil, List.sum_cons, List.sum_nil, Nat.add_zero]
    rw [hd]
    rfl
  omega
theorem flat_nil (cs : List Nat) (s : Nat) : flat cs s [] = [] := rfl
theorem flat_one (cs : List Nat) (s : Nat) : flat cs s [""] = exps cs s "" := by
  show exps cs (s - 0) "" ++ [] = _
  rw [List.append_nil, Nat.sub_zero]
/-- the same, one sign more at the end -/
theorem exps_end (cs : List Nat) : ∀ d t, exps cs (d + 1) t = (exps cs d t).flatMap fun u => cs.map fun c => u ++ one c
  | 0, t => by
    show (cs.flatMap fun c => [t ++ one c]) = [t].flatMap _
    simp [List.flatMap_singleton']
    induction cs with
    | nil => rfl
    | cons c r ih => rw [List.flatMap_cons, List.map_cons, ih]; rfl
  | d + 1, t => by
    rw [exps]
    conv => rhs; rw [exps, List.flatMap_assoc]
    refine flatMap_same ?_
    intro c _
    exact exps_end cs d (t ++ one c)
end FM
-- K1Txt
set_option maxRecDepth 100000
set_option maxHeartbeats 1000000
namespace K0
open PySem L2 FM He
/-- all texts of some letters up to a length; either no more than nine are asked for, or the length is at most three -/
def spTexts : SpZ := fun vs H G Q _ => ∃ (z : Str) (n : Nat), vs = [.str z, .int (n : Nat)] ∧ isWord z = true ∧ lettersB z = true ∧ n ≤ 60 ∧ 0 < G.lim ∧ (G.lim ≤ 9 ∨ n ≤ 3) ∧
  (∀ ys H', Same H H' → ys <+: (upto (sg z) (n + 1)).map V.str → ys.length ≤ G.lim → G.ok ys H') ∧ (∀ H', Same H H' → (upto (sg z) (n + 1)).length < G.lim → Q ((upto (sg z) (n + 1)).map V.str) H')
section
variable {P : Program} {w : World} {K : PySem.W.Frag} {mg : Str → Option Value} {base : Heap}
theorem zfn_texts {f : Addr} {fd : FuncData} (F : FnP K "texts" s_texts f fd) (T : TP K mg) : ZFn P w K mg base 4 f fd ["letters", "length"] spTexts := by
  obtain ⟨d_check_length, F_check_length⟩ := T.f_check_length
  have G_check_length := ok_check_length (P := P) (w := w) (base := base) F_check_length T
  have b_check_length : Binds K d_check_length ["length"] [] := F_check_length.bindsN fun _ _ _ _ _ _ us hl => match us, hl with | [_], _ => rfl
  obtain ⟨d_is_letters, F_is_letters⟩ := T.f_is_letters
  have G_is_letters := ok_is_letters (P := P) (w := w) (base := base) F_is_letters T
  have b_is_letters : Binds K d_is_letters ["value"] [] := F_is_letters.bindsN fun _ _ _ _ _ _ us hl => match us, hl with | [_], _ => rfl
  obtain ⟨oc, od, dV, kV, doc, pm, an, cdv, ct, osl, rfl, lk, hcd, hdf, _⟩ := F.ex
  refine zfn_of lk hcd sc_texts (fun vs H G Q E h => ?_) fun A outer s H vs G Q E pn C hr h => ?_
  · obtain ⟨z, n, rfl, _⟩ := h
    rfl
  obtain ⟨z, n, rfl, hz, hL, hn, h0, hsm, kOk, kEnd⟩ := h
  have nd0 := sc_texts.nd
  have nd := nd0
  have hlet := hL
  unfold lettersB at hlet
  simp only [Bool.and_eq_true, decide_eq_true_eq] at hlet
  obtain ⟨⟨⟨h1, h4⟩, -⟩, -⟩ := hlet
  rw [← sg_len] at h1 h4
  refine ⟨_, (nss_cons (ns_ps (ps_if (pt_not (pt_val (pe_call G_is_letters (hr.mono (by decide)) rfl T.g_is_letters F_is_letters.kp b_is_letters .nil pass0 (pa_cons (pv 0) pa_nil)))) (pss_one ps_never) pss_nil))
      (nss_cons (ns_ps (ps_expr (pe_call G_check_length (hr.mono (by decide)) rfl T.g_check_length F_check_length.kp b_check_length .nil pass0 (pa_cons (pv 1) pa_nil))))
      (nss_one (ns_for owns_gcx rfl (pi_range1 (by rfl) T.b_range (pa_cons (pe_op op_add (pv 1) pe_int) pa_nil)) (pg_name (i := 2) nd rfl (.inl rfl)) (nss_cons (ns_ps (ps_set (i := 3) nd rfl (.inl rfl) (pe_lst (pa_cons pe_str pa_nil))))
      (nss_one (ns_while owns_gcx (pt_truth (pv 3) (by intro _; rfl)) (nss_cons (ns_ps (ps_set (i := 4) nd rfl (.inr rfl) (pe_bm0 PySem.F.plainAttrs_list PySem.F.slot_list_pop PySem.F.type_list_pop mt_pop (pv 3))))
      (nss_one (ns_if (pt_cmpR op_eq (pe_callB call_len (by rfl) T.b_len (by decide +kernel) (pa_cons (pv 4) pa_nil)) (pv 2) (nomark _)) (nss_one (ns_yield (pv 4))) (nss_one (ns_ps (ps_expr (pe_bm PySem.F.plainAttrs_list PySem.F.slot_list_extend PySem.F.type_list_extend mt_extend (pv 3) (pa_cons (pe_lc (own := [("letter", 5)]) rfl nd (pi_str (pe_backS (pv 0))) (blkOk_by (own := [("letter", 5)]) (N := ["letters", "length", "size", "waiting", "text", "letter"]) (sc := defScope s_texts) (by decide +kernel)) (fun _ _ _ _ _ => (pg_name (i := 5) nd rfl (.inl rfl))) (fun _ _ _ _ _ => pts_nil) (fun _ _ _ _ _ => (pe_op op_add_str (pv 4) (pv 5)))) pa_nil))))))))))))))), ?_⟩
  refine ⟨_, rfl, z, rfl, hz, hL, fun H1 S1 => ⟨_, rfl, iteF ?_⟩⟩
  refine ⟨_, rfl, _, rfl, by omega, by omega, ?_⟩
  refine ⟨_, rfl, _, _, rfl, rfl, n + 1, rfl, by omega, by omega, ?_⟩
  -- no more than these are ever made
  have small : ∀ i ys, i ≤ n → ys = (upto (sg z) i).map V.str → ys.length < G.lim → i ≤ 8 := fun i ys hi e hl => by
    rcases hsm with hs | hs
    · rw [e, List.length_map, upto_len] at hl
      have := tl_ge h1 i
      omega
    · omega
  refine ⟨fun i m ys σ Hc => m = n + 1 - i ∧ i ≤ n + 1 ∧ Same H Hc ∧ ys = (upto (sg z) i).map V.str ∧ ys.length < G.lim ∧ ∃ a b c d, σ = [some (.str z), some (.int (n : Nat)), a, b, c, d], ⟨_, rfl, Nat.zero_le _, S1, rfl, h0, _, _, _, _, rfl⟩, ?_⟩
  rintro i m ys σ Hc ⟨rfl, hi, Sc, hys, hlim, a, b, c, d, rfl⟩
  by_cases hin : i < n + 1
  · refine .inr ⟨hin, fun ys' σ' H' => Same H H' ∧ ys' = (upto (sg z) (i + 1)).map V.str ∧ ys'.length < G.lim ∧ ∃ a b c d, σ' = [some (.str z), some (.int (n : Nat)), a, b, c, d], ?_, ?_⟩
    · rintro ys' σ' H' ⟨S', e', l', a', b', c', d', rfl⟩
      exact ⟨n + 1 - (i + 1), by omega, rfl, by omega, S', e', l', a', b', c', d', rfl⟩
    rintro x H' ⟨rfl, rfl⟩
    have i8 := small i ys (by omega) hys hlim
    have e0 : ((0 : Int) + (i : Nat)) = ((i : Nat) : Int) := by omega
    refine ⟨by decide, fun p np => ?_⟩
    have nH : H p = none := by
      cases e : H p with
      | none => rfl
      | some o => rw [Sc _ _ e] at np; cases np
    have over : ∀ {H2 : Hp} {o : HO}, Same H H2 → Same H (upd H2 p o) := fun {H2 o} S b u hb => by
      rw [upd_ne (ne_of_none hb nH)]
      exact S b u hb
    refine ⟨fun m ys σ Hc => Same H Hc ∧ ∃ b c, ∃ ws : List Str, σ = [some (.str z), some (.int (n : Nat)), some (.int (i : Nat)), some (.ref p), b, c] ∧ Hc p = some (.lst (ws.map V.str)) ∧ (∀ t ∈ ws, t.length ≤ i) ∧ mass (sg z).length i ws = m ∧ m ≤ 87381 ∧
        ys ++ (flat (sg z) i ws).map V.str = (upto (sg z) (i + 1)).map V.str ∧ ys.length < G.lim, ⟨FM.nd (sg z).length i, over Sc, c, d, [""], ?_, upd_same, ?_, ?_, nd_small _ h4 _ i8, ?_, hlim⟩, ?_⟩
    · rw [e0]
      rfl
    · intro t ht
      rw [List.mem_singleton.mp ht]
      exact Nat.zero_le _
    · show FM.nd _ (i - 0) + 0 = _
      rw [Nat.sub_zero, Nat.add_zero]
    · rw [flat_one, hys, ← List.map_append]
      rfl
    rintro m ys σ Hc ⟨Sh, b, c, ws, rfl, hp, hws, hm, hm2, hyf, hyl⟩
    rcases List.eq_nil_or_concat ws with rfl | ⟨w0, t, rfl⟩
    · refine ⟨_, rfl, _, .inl ⟨_, SqL.of hp, rfl⟩, iteF ?_⟩
      refine ⟨Sh, ?_, hyl, _, _, _, _, rfl⟩
      rw [flat_nil] at hyf
      simpa using hyf
    · rw [List.concat_eq_append] at hp hws hm hyf
      have ht : t.length ≤ i := hws t (List.mem_append_right _ (List.mem_singleton.mpr rfl))
      have hw0 : ∀ u ∈ w0, u.length ≤ i := fun u hu => hws u (List.mem_append_left _ hu)
      have hp2 : Hc p = some (.lst (w0.map V.str ++ [V.str t])) := by rw [hp, List.map_append]; rfl
      have tsz : t.length ≤ sizeLine := by rw [sizeLine_eq]; omega
      refine ⟨_, rfl, _, .inl ⟨_, SqL.of hp, rfl⟩, ?_⟩
      rw [show (!(List.map V.str (w0 ++ [t])).isEmpty) = true by simp]
      refine iteT ⟨fun ys σ Hc => ∃ m', m' < m ∧ (Same H Hc ∧ ∃ b c, ∃ ws : List Str, σ = [some (.str z), some (.int (n : Nat)), some (.int (i : Nat)), some (.ref p), b, c] ∧ Hc p = some (.lst (ws.map V.str)) ∧ (∀ t ∈ ws, t.length ≤ i) ∧ mass (sg z).length i ws = m' ∧ m' ≤ 87381 ∧
        ys ++ (flat (sg z) i ws).map V.str = (upto (sg z) (i + 1)).map V.str ∧ ys.length < G.lim), fun _ _ _ h => h, ?_⟩
      refine ⟨_, rfl, .inl ⟨rfl, _, SqL.of hp⟩, p, _, .str t, rfl, rfl, hp2, by simp, ?_⟩
      refine ⟨_, rfl, _, t.length, rfl, ⟨tsz, rfl⟩, _, rfl, rfl, _, rfl, ?_⟩
      have pushed := flat_push (sg z) i w0 t
      by_cases el : t.length = i
      · rw [decide_eq_true (by rw [el] : V.int (t.length : Nat) = V.int (i : Nat))]
        have m1 : mass (sg z).length i (w0 ++ [t]) = mass (sg z).length i w0 + 1 := by
          rw [mass_app]
          congr 1
          show FM.nd _ (i - t.length) + 0 = 1
          rw [el, Nat.sub_self]
          rfl
        rw [pushed, el, Nat.sub_self, List.map_append, ← List.append_assoc] at hyf
        have hyf2 : (ys ++ [V.str t]) ++ (flat (sg z) i w0).map V.str = (upto (sg z) (i + 1)).map V.str := hyf
        have pre : ys ++ [V.str t] <+: (upto (sg z) (n + 1)).map V.str := by
          have q : ys ++ [V.str t] <+: (upto (sg z) (i + 1)).map V.str := ⟨_, hyf2⟩
          exact q.trans ((upto_more (sg z) (by omega : i + 1 ≤ n + 1)).map V.str)
        have ysz : ys.length < sizeLine := by
          rcases hsm with hs | hs
          · rw [sizeLine_eq]; omega
          · have q := pre.length_le
            rw [List.length_append, List.length_map, upto_len] at q
            have := tl_small _ h4 (n + 1) (by omega)
            rw [sizeLine_eq]
            have : [V.str t].length = 1 := rfl
            omega
        refine iteT ⟨ysz, _, rfl, kOk _ _ (over Sh) pre (by rw [List.length_append]; exact hyl), fun lt => ⟨mass (sg z).length i w0, by omega, over Sh, _, _, w0, rfl, by rw [upd_same, List.dropLast_concat], hw0, rfl, by omega, hyf2, by rw [List.length_append]; exact lt⟩⟩
      · have lt : t.length < i := by omega
        rw [decide_eq_false (fun e => el (by have := V.int.inj e; omega) : ¬ V.int (t.length : Nat) = V.int (i : Nat))]
        refine iteF ?_
        have hb : sg (backS z) = (sg z).reverse := backS_cps z
        have bl : (backS z).length ≤ sizeLine := by rw [← sg_len, hb, List.length_reverse, sizeLine_eq]; omega
        refine ⟨_, rfl, .inl ⟨rfl, _, SqL.of upd_same⟩, _, rfl, _, rfl, bl, _, rfl, fun D nD => ?_⟩
        have nDH : H D = none := by
          cases e : H D with
          | none => rfl
          | some o => rw [over Sh _ _ e] at nD; cases nD
        have Dp : p ≠ D := fun e => by
          rw [← e, upd_same] at nD
          cases nD
        refine lc_it (w := walk_str (z := backS z)) (Pv := fun j Hc => Same H Hc ∧ Hc p = some (.lst (w0.map V.str)) ∧ Hc D = some (.lst ((((sg z).reverse.take j).map fun c => t ++ one c).map V.str)))
          ⟨fun u o hu => by rw [upd_ne (ne_of_none hu nDH)]; exact over Sh _ _ hu, by rw [upd_ne Dp, upd_same, List.dropLast_concat], upd_same⟩ (fun _ _ _ _ => trivial) ?_ ?_
        · rintro j x H1 H2 hj ⟨S2, hp3, hD⟩ ⟨rfl, ch, hc, rfl⟩
          have hj4 : j < (sg z).length := by
            have q : (sg (backS z)).length = (sg z).length := by rw [hb, List.length_reverse]
            have q2 : j < (sg (backS z)).length := by rw [sg_len]; exact hj
            omega
          have hc2 : (sg z).reverse[j]? = some ch := by rw [← hb]; simpa using hc
          refine ⟨rfl, _, rfl, _, rfl, _, _, rfl, rfl, (by rw [sizeLine_eq]; show t.length + 1 ≤ 16777216; omega), _, hD, ?_, ?_⟩
          · rw [List.length_map, List.length_map, List.length_take, sizeLine_eq]
            omega
          · refine ⟨fun u o hu => by rw [upd_ne (ne_of_none hu nDH)]; exact S2 _ _ hu, by rw [upd_ne Dp]; exact hp3, ?_⟩
            rw [upd_same, List.take_add_one, hc2, List.map_append, List.map_append]
            rfl
        · rintro H1 ⟨S2, hp3, hD⟩
          have full : (sg z).reverse.take (backS z).cps.size = (sg z).reverse := by
            refine List.take_of_length_le ?_
            rw [← hb]
            simp [sg]
          rw [full] at hD
          have mg2 := mass_grow (sg z) i w0 lt
          have ml := mass_len (sg z).length i (w0 ++ (sg z).reverse.map fun c => t ++ one c)
          rw [List.length_append] at ml
          refine ⟨p, D, w0.map V.str, (((sg z).reverse.map fun c => t ++ one c)).map V.str, rfl, rfl, hp3, hD, by rw [List.length_map, List.length_map, sizeLine_eq]; omega, ?_⟩
          refine ⟨mass (sg z).length i (w0 ++ (sg z).reverse.map fun c => t ++ one c), by omega, fun u o hu => by rw [upd_ne (ne_of_none hu nH)]; exact S2 _ _ hu, _, _, w0 ++ (sg z).reverse.map (fun c => t ++ one c), rfl, ?_, ?_, rfl, by omega, ?_, hyl⟩
          · rw [upd_same, List.map_append]
          · intro u hu
            rcases List.mem_append.mp hu with hu | hu
            · exact hw0 u hu
            · obtain ⟨ch, _, rfl⟩ := List.mem_map.mp hu
              rw [app_len, one_len]
              omega
          · rw [flat_grow (sg z) i w0 lt]
            exact hyf
  · have e : i = n + 1 := by omega
    subst e
    refine .inl ⟨Nat.le_refl _, ?_⟩
    show Q ys Hc
    rw [hys]
    refine kEnd Hc Sc ?_
    rw [hys, List.length_map] at hlim
    exact hlim
end
end K0
-- K1Bag
set_option maxRecDepth 100000
set_option maxHeartbeats 4000000
namespace K0
open PySem L2 FM He
theorem scThrow : FnScope ["_law_bag", "_law_total", "_law_found", "_law_one", "_law_two"] ["_law_bag", "_law_total"] (defScope sThrow) := ⟨rfl, rfl, rfl, by decide +kernel, rfl, by decide +kernel, by decide +kernel⟩
theorem scPick : FnScope ["_law_bag", "_law_items"] ["_law_bag", "_law_items"] (defScope sPick) := ⟨rfl, rfl, rfl, by decide +kernel, rfl, by decide +kernel, by decide +kernel⟩
theorem scStart : FnScope ["_law_script", "_law_at", "_law_cell", "_law_great", "_law_mixed"] ["_law_script", "_law_at"] (defScope sStart) := ⟨rfl, rfl, rfl, by decide +kernel, rfl, by decide +kernel, by decide +kernel⟩
/-- the bag at a: three ints -/
abbrev bagO (g s c : Int) : HO := .lst [.int g, .int s, .int c]
def spThrow : Sp := fun vs H Q _ => ∃ (a : Addr) (g s c t : Int), vs = [.ref a, .int t] ∧ H a = some (bagO g s c) ∧ 0 < t ∧ t < 1073741824 ∧
  ∀ r g' c', 0 ≤ r → r < t → Q (.int r) (upd H a (bagO g' s c'))
structure TB (mg : Str → Option Value) : Prop where
  int : mg "int" = none
  len : mg "len" = none
  abs : mg "abs" = none
  max : mg "max" = none
/-- what pick may be given: a list, a tuple, a text; its items -/
def ItemsOf (K : PySem.W.Frag) (H : Hp) (x : V) (xs : List V) : Prop := (∃ p, x = .ref p ∧ (SqL K H p xs ∨ SqT K H p xs)) ∨ (∃ z : Str, x = .str z ∧ z.length ≤ sizeLine ∧ xs = z.cps.toList.map fun c => V.str ⟨#[c]⟩)
def spPick (K : PySem.W.Frag) : Sp := fun vs H Q _ => ∃ (a : Addr) (g s c : Int) (x : V) (xs : List V), vs = [.ref a, x] ∧ H a = some (bagO g s c) ∧ ItemsOf K H x xs ∧ (∀ g' c', ItemsOf K (upd H a (bagO g' s c')) x xs) ∧ 0 < xs.length ∧ xs.length < 1073741824 ∧
  ∀ y g' c', y ∈ xs → Q y (upd H a (bagO g' s c'))
section
variable {P : Program} {w : World} {K : PySem.W.Frag} {mg : Str → Option Value} {base : Heap}
theorem ok_throw {f : Addr} {fd : FuncData} (F : FnP K "_law_throw" sThrow f fd) (T : TB mg) : FnOk P w K mg base CX0 1 f fd ["_law_bag", "_law_total"] spThrow := by
  refine F.ok scThrow (fun vs H Q E h => ?_) (fun cdv A outer s H vs Q E hr h => ?_)
  · obtain ⟨a, g, s, c, t, rfl, _⟩ := h
    rfl
  · obtain ⟨a, g, s, c, t, rfl, hb, ht, ht2, k⟩ := h
    have nd := scThrow.nd
    refine ⟨_, pss_cons (ps_if (pt_cmpR op_gt (pe_ix ix_list (pv 0) pe_int (fun _ _ => rfl)) pe_int (nomark _))
        (pss_cons (ps_set (i := 2) nd rfl (.inl rfl) (pe_op op_mod (pe_callTy call_intIB (by rfl) T.int (by decide +kernel) (pa_cons (pe_ix ix_list (pv 0) pe_int (fun _ _ => rfl)) pa_nil)) (pv 1)))
        (pss_cons (ps_asg (pe_op op_fdiv (pe_ix ix_list (pv 0) pe_int (fun _ _ => rfl)) (pv 1)) (pg_sub (pv 0) pe_int set_list))
        (pss_one (ps_ret (pv 2))))) pss_nil)
      (pss_cons (ps_asg (pe_op op_add (pe_ix ix_list (pv 0) pe_int (fun _ _ => rfl)) pe_int) (pg_sub (pv 0) pe_int set_list))
      (pss_cons (ps_set (i := 3) nd rfl (.inl rfl) (pe_op op_mod (pe_callTy call_intIB (by rfl) T.int (by decide +kernel) (pa_cons (pe_op op_add (pe_ix ix_list (pv 0) pe_int (fun _ _ => rfl)) (pe_op op_mul pe_int (pe_ix ix_list (pv 0) pe_int (fun _ _ => rfl)))) pa_nil)) pe_int))
      (pss_cons (ps_set (i := 4) nd rfl (.inl rfl) (pe_op op_add (pe_op op_mul (pe_op op_mod (pe_callTy call_intIB (by rfl) T.int (by decide +kernel) (pa_cons (pe_op op_mul (pv 3) (pv 3)) pa_nil)) pe_int) (pv 3)) (pe_op op_mul pe_int (pe_ix ix_list (pv 0) pe_int (fun _ _ => rfl)))))
      (pss_cons (ps_set (i := 4) nd rfl (.inl rfl) (pe_op op_mod (pe_callTy call_intIB (by rfl) T.int (by decide +kernel) (pa_cons (pv 4) pa_nil)) pe_int))
      (pss_one (ps_ret (pe_op op_mod (pe_callTy call_intIB (by rfl) T.int (by decide +kernel) (pa_cons (pe_op op_fdiv (pv 4) pe_int) pa_nil)) (pv 1)))))))), ?_⟩
    have L : ∀ {g s c : Int} {H : Hp}, H a = some (bagO g s c) → SqL K H a [.int g, .int s, .int c] := fun h => SqL.of h
    refine ⟨_, rfl, a, _, 0, .int g, rfl, rfl, L hb, rfl, _, _, rfl, rfl, _, rfl, ?_⟩
    refine ite2 (fun hg => ?_) (fun hg => ?_)
    · refine ⟨_, rfl, a, _, 0, .int g, rfl, rfl, L hb, rfl, .inl ⟨_, rfl, ?_⟩⟩
      refine ⟨_, rfl, _, _, rfl, rfl, ht, ?_⟩
      refine ⟨_, rfl, a, _, 0, .int g, rfl, rfl, L hb, rfl, _, rfl, _, _, rfl, rfl, ⟨ht, ht2⟩, ?_⟩
      refine ⟨_, rfl, a, _, 0, 0, rfl, rfl, hb, rfl, ?_⟩
      refine ⟨_, rfl, ?_⟩
      exact k _ _ _ (Int.emod_nonneg _ (by omega)) (Int.emod_lt_of_pos _ ht)
    · -- bag[2] = bag[2] + 1
      refine ⟨_, rfl, a, _, 2, .int c, rfl, rfl, L hb, rfl, _, _, rfl, rfl, _, rfl, a, _, 2, 2, rfl, rfl, hb, rfl, ?_⟩
      have hb1 : upd H a (bagO g s (c + 1)) a = some (bagO g s (c + 1)) := upd_same
      show _
      refine ⟨_, rfl, a, _, 1, .int s, rfl, rfl, L hb1, rfl, _, rfl, a, _, 2, .int (c + 1), rfl, rfl, L hb1, rfl, _, _, rfl, rfl, .inl (by decide), _, _, rfl, rfl, .inl ⟨_, rfl, _, _, rfl, rfl, (by show (0:Int) < 2305843009213693951; decide), ?_⟩⟩
      have b1 : (0:Int) ≤ (s + 1000403 * (c + 1)) % 2305843009213693951 ∧ (s + 1000403 * (c + 1)) % 2305843009213693951 < 2 ^ 64 := ⟨Int.emod_nonneg _ (by decide), Int.lt_trans (Int.emod_lt_of_pos _ (by decide)) (by decide)⟩
      generalize (s + 1000403 * (c + 1)) % 2305843009213693951 = one at b1 ⊢
      refine ⟨_, rfl, _, rfl, _, _, rfl, rfl, .inl ⟨by omega, by omega⟩, .inl ⟨_, rfl, _, _, rfl, rfl, (by show (0:Int) < 2305843009213693951; decide), _, rfl, _, _, rfl, rfl, .inr ⟨by omega, by omega⟩, _, rfl, a, _, 2, .int (c + 1), rfl, rfl, L hb1, rfl, _, _, rfl, rfl, .inl (by decide), _, _, rfl, rfl, ?_⟩⟩
      generalize one * one % 2305843009213693951 * one + 8111 * (c + 1) = two
      refine ⟨_, rfl, .inl ⟨_, rfl, _, _, rfl, rfl, (by show (0:Int) < 2305843009213693907; decide), ?_⟩⟩
      generalize two % 2305843009213693907 = tw
      refine ⟨_, rfl, _, _, rfl, rfl, (by show (0:Int) < 8192 ∧ (8192:Int) < 1073741824; decide), .inl ⟨_, rfl, _, rfl, _, _, rfl, rfl, ht, ?_⟩⟩
      exact k _ _ _ (Int.emod_nonneg _ (by omega)) (Int.emod_lt_of_pos _ ht)
theorem ok_pick {f fT : Addr} {fd fdT : FuncData} (F : FnP K "_law_pick" sPick f fd) (T : TB mg) (FT : FnP K "_law_throw" sThrow fT fdT) (mT : mg "_law_throw" = some (.ref fT)) (bT : Binds K fdT ["_law_bag", "_law_total"] []) :
    FnOk P w K mg base CX0 2 f fd ["_law_bag", "_law_items"] (spPick K) := by
  have GT : FnOk P w K mg base CX0 1 fT fdT ["_law_bag", "_law_total"] spThrow := ok_throw FT T
  refine F.ok scPick (fun vs H Q E h => ?_) (fun cdv A outer s H vs Q E hr h => ?_)
  · obtain ⟨a, g, s, c, x, xs, rfl, _⟩ := h
    rfl
  · obtain ⟨a, g, s, c, x, xs, rfl, hb, hi, hi2, h0, h1, k⟩ := h
    have nd := scPick.nd
    refine ⟨_, pss_one (ps_ret (pe_ix ix_seq (pv 1) (pe_call GT hr rfl mT FT.kp bT .nil pass0 (pa_cons (pv 0) (pa_cons (pe_callB call_len (by rfl) T.len (by decide +kernel) (pa_cons (pv 1) pa_nil)) pa_nil))) (fun _ _ => rfl))), ?_⟩
    rcases hi with ⟨p, rfl, hs⟩ | ⟨z, rfl, hz, rfl⟩
    · refine ⟨_, rfl, _, rfl, _, rfl, _, xs.length, rfl, ?_, a, g, s, c, xs.length, rfl, hb, by omega, by omega, fun r g' c' hr0 hr1 => ?_⟩
      · rcases hs with hs | hs
        · exact .inl ⟨_, hs, rfl⟩
        · exact .inr ⟨_, hs, rfl⟩
      · have hj : r.toNat < xs.length := by omega
        have e : atI xs r = some xs[r.toNat] := by
          have := atI_nat (xs := xs) (j := r.toNat) (v := xs[r.toNat]) (List.getElem?_eq_getElem hj)
          rwa [Int.toNat_of_nonneg hr0] at this
        have hk := k xs[r.toNat] g' c' (List.getElem_mem hj)
        rcases hi2 g' c' with ⟨p', e', hs'⟩ | ⟨z, e', _⟩
        · cases e'
          rcases hs' with hs' | hs'
          · exact .inl ⟨p, xs, r, _, rfl, rfl, hs', e, hk⟩
          · exact .inr (.inl ⟨p, xs, r, _, rfl, rfl, hs', e, hk⟩)
        · cases e'
    · have el : (z.cps.toList.map fun c => V.str ⟨#[c]⟩).length = z.length := by simp [Str.length]
      rw [el] at h0 h1
      refine ⟨_, rfl, _, rfl, _, rfl, _, z.length, rfl, ⟨hz, rfl⟩, a, g, s, c, z.length, rfl, hb, by omega, by omega, fun r g' c' hr0 hr1 => ?_⟩
      have hj : r.toNat < z.cps.toList.length := by simp [Str.length] at hr1 ⊢; omega
      have e : atI z.cps.toList r = some z.cps.toList[r.toNat] := by
        have := atI_nat (xs := z.cps.toList) (j := r.toNat) (v := z.cps.toList[r.toNat]) (List.getElem?_eq_getElem hj)
        rwa [Int.toNat_of_nonneg hr0] at this
      exact .inr (.inr ⟨z, r, _, rfl, rfl, hz, e, k _ g' c' (List.mem_map.mpr ⟨_, List.getElem_mem hj, rfl⟩)⟩)
def spStart (K : PySem.W.Frag) : Sp := fun vs H Q _ => ∃ (a : Addr) (ns : List Int) (i : Nat), vs = [.ref a, .int i] ∧ SqL K H a (ns.map V.int) ∧ 
  ∀ p g s c, H p = none → Q (.ref p) (upd H p (bagO g s c))
theorem ok_start {f : Addr} {fd : FuncData} (F : FnP K "_law_start" sStart f fd) (T : TB mg) : FnOk P w K mg base CX0 1 f fd ["_law_script", "_law_at"] (spStart K) := by
  refine F.ok scStart (fun vs H Q E h => ?_) (fun cdv A outer s H vs Q E hr h => ?_)
  · obtain ⟨a, ns, i, rfl, _⟩ := h
    rfl
  · obtain ⟨a, ns, i, rfl, hs, k⟩ := h
    have nd := scStart.nd
    refine ⟨_, C8.pss_cut (ps_set (i := 2) nd rfl (.inl rfl) (pe_ifExp (pt_cmpR op_lt (pv 1) (pe_callB call_len (by rfl) T.len (by decide +kernel) (pa_cons (pv 0) pa_nil)) (nomark _))
          (pe_ix ix_seq (pv 0) (pv 1) (fun _ _ => rfl)) (pe_op op_add (pe_op op_mul pe_int (pv 1)) pe_int)))
      (pss_cons (ps_set (i := 3) nd rfl (.inl rfl) (pe_op op_mod (pe_callTy call_intIB (by rfl) T.int (by decide +kernel) (pa_cons (pe_callB call_abs (by rfl) T.abs (by decide +kernel) (pa_cons (pv 2) pa_nil)) pa_nil)) (pe_op op_powW (pe_op op_powW pe_int pe_int) pe_int)))
      (pss_cons (ps_set (i := 4) nd rfl (.inl rfl) (pe_op op_add (pe_op op_add (pe_op op_add (pe_op op_mul (pe_op op_mod (pe_callTy call_intIB (by rfl) T.int (by decide +kernel) (pa_cons (pv 3) pa_nil)) pe_int) pe_int) (pe_op op_mul pe_int (pv 1)))
          (pe_op op_mul pe_int (pe_callTy call_intIB (by rfl) T.int (by decide +kernel) (pa_cons (pe_cmpR op_lt (pv 2) pe_int (nomark _)) pa_nil)))) pe_int))
      (pss_one (ps_ret (pe_lst (pa_cons (pe_callB (call_max2 rfl) (by rfl) T.max (by decide +kernel) (pa_cons pe_int (pa_cons (pe_op op_sub (pv 3) (pe_op op_powW pe_int pe_int)) pa_nil)))
        (pa_cons (pe_op op_mod (pe_callTy call_intIB (by rfl) T.int (by decide +kernel) (pa_cons (pv 4) pa_nil)) pe_int) (pa_cons pe_int pa_nil)))))))), ?_⟩
    have hlen : (ns.map V.int).length = ns.length := by simp
    refine ⟨fun σ' H' => ∃ cell : Int, σ' = [some (.ref a), some (.int i), some (.int cell), none, none] ∧ H' = H, ?_, ?_⟩
    · refine ⟨_, rfl, _, rfl, _, _, rfl, .inl ⟨_, hs, rfl⟩, _, _, rfl, rfl, _, rfl, ?_⟩
      refine ite2 (fun hi => ?_) (fun hi => ?_)
      · have hi' : i < (ns.map V.int).length := by simp at hi ⊢; omega
        have e := atI_nat (xs := ns.map V.int) (j := i) (v := (ns.map V.int)[i]) (List.getElem?_eq_getElem hi')
        refine ⟨_, rfl, _, rfl, .inl ⟨a, _, _, (ns.map V.int)[i], rfl, rfl, hs, e, ?_⟩⟩
        rw [List.getElem_map]
        exact ⟨_, rfl, rfl⟩
      · refine ⟨_, rfl, _, _, rfl, rfl, .inl (by decide), _, _, rfl, rfl, ?_⟩
        exact ⟨_, rfl, rfl⟩
    · rintro σ' H' ⟨cell, rfl, rfl⟩
      have hp : (0:Int) < ((10 ^ (58:Int).toNat) ^ (12:Int).toNat) := by decide +kernel
      refine ⟨_, rfl, _, rfl, .inl ⟨_, rfl, _, _, rfl, rfl, ⟨by decide, by decide +kernel⟩, _, _, rfl, rfl, ⟨by decide, by decide +kernel⟩, _, _, rfl, rfl, hp, ?_⟩⟩
      generalize (if cell < 0 then -cell else cell) % ((10 ^ (58:Int).toNat) ^ (12:Int).toNat) = great
      refine ⟨_, rfl, .inl ⟨_, rfl, _, _, rfl, rfl, (by show (0:Int) < 2147483497; decide), _, _, rfl, rfl, .inr (by decide), _, rfl, _, _, rfl, rfl, .inl (by decide), _, _, rfl, rfl, ?_⟩⟩
      refine ⟨_, rfl, _, _, rfl, rfl, .inr ⟨_, rfl, _, _, rfl, rfl, .inl (by decide), _, _, rfl, rfl, _, _, rfl, rfl, ?_⟩⟩
      refine ⟨_, rfl, _, _, rfl, rfl, ⟨by decide, by decide +kernel⟩, _, _, rfl, rfl, _, _, rfl, ?_⟩
      refine ⟨_, rfl, .inl ⟨_, rfl, _, _, rfl, rfl, (by show (0:Int) < 2147483353; decide), by show 3 ≤ sizeLine; decide, fun p np => ?_⟩⟩
      exact k p _ _ _ np
theorem tb0 (T : TP K mg) : TB mg := ⟨T.b_int, T.b_len, T.b_abs, T.b_max⟩
theorem ok_law_throw {f : Addr} {fd : FuncData} (F : FnP K "_law_throw" sThrow f fd) (T : TP K mg) : FnOk P w K mg base CX0 1 f fd ["_law_bag", "_law_total"] spThrow := ok_throw F (tb0 T)
theorem ok_law_start {f : Addr} {fd : FuncData} (F : FnP K "_law_start" sStart f fd) (T : TP K mg) : FnOk P w K mg base CX0 1 f fd ["_law_script", "_law_at"] (spStart K) := ok_start F (tb0 T)
theorem ok_law_pick {f : Addr} {fd : FuncData} (F : FnP K "_law_pick" sPick f fd) (T : TP K mg) : FnOk P w K mg base CX0 2 f fd ["_law_bag", "_law_items"] (spPick K) := by
  obtain ⟨_, FT⟩ := T.f__law_throw
  exact ok_pick F (tb0 T) FT T.g__law_throw (FT.bindsN fun _ _ _ _ _ _ us hl => match us, hl with | [_, _], _ => rfl)
end
end K0
-- FmOkv
set_option maxRecDepth 100000
set_option maxHeartbeats 4000000
/-! Plain data that stays while one object is written. -/
namespace FM
open PySem PySem.Spec PyProof.Rows L2
def Keep (b : Addr → Prop) (H H' : Hp) : Prop := ∀ a o, ¬ b a → H a = some o → H' a = some o
section
variable {b b' : Addr → Prop} {H H1 H2 : Hp}
theorem Keep.refl : Keep b H H := fun _ _ _ h => h
theorem Keep.trans (x : Keep b H H1) (y : Keep b H1 H2) : Keep b H H2 := fun a o n h => y a o n (x a o n h)
theorem Keep.of (S : Same H H1) : Keep b H H1 := fun a o _ h => S a o h
theorem Keep.upd {p : Addr} {o : HO} (hp : b p) : Keep b H (L2.upd H p o) := fun a u n h => by
  rw [upd_ne fun z => n (by rw [z]; exact hp)]
  exact h
theorem Keep.more (h : ∀ a, b a → b' a) (x : Keep b H H1) : Keep b' H H1 := fun a o n z => x a o (fun q => n (h a q)) z
theorem Keep.new {p : Addr} {o : HO} (n : H p = none) : Keep b H (L2.upd H p o) := fun a u na h => by
  rw [upd_ne (ne_of_none h n)]
  exact h
/-- another new object is written -/
theorem Keep.put {p : Addr} {o : HO} (x : Keep b H H1) (n : H p = none) : Keep b H (L2.upd H1 p o) := fun a u na h => by
  rw [upd_ne (ne_of_none h n)]
  exact x a u na h
mutual
/-- an empty dict is no such data's part -/
theorem DVaway {p : Addr} (hp : H p = some (.dT [])) (S : ∀ a o, a ≠ p → H a = some o → H1 a = some o) : ∀ {v : V} {d : PyData} {as : List Addr}, DV H v d as → DV H1 v d as
  | _, _, _, .non => .non
  | _, _, _, .bl b => .bl b
  | _, _, _, .int i => .int i
  | _, _, _, .str x => .str x
  | _, _, _, .lst e q => .lst (S _ _ (ne_of e hp (fun z => nomatch z)) e) (DVsaway hp S q)
  | _, _, _, .tup e q => .tup (S _ _ (ne_of e hp (fun z => nomatch z)) e) (DVsaway hp S q)
  | _, _, _, .dS e q => .dS (S _ _ (ne_of e hp (fun z => nomatch z)) e) (DVaway hp S q)
  | _, _, _, .dT e q => .dT (S _ _ (ne_of e hp (fun z => nomatch z)) e) (DVaway hp S q)
  | _, _, _, .dE e => .dE (S _ _ (ne_of e hp (fun z => nomatch z)) e)
theorem DVsaway {p : Addr} (hp : H p = some (.dT [])) (S : ∀ a o, a ≠ p → H a = some o → H1 a = some o) : ∀ {vs : List V} {ds : List PyData} {as : List Addr}, DVs H vs ds as → DVs H1 vs ds as
  | _, _, _, .nil => .nil
  | _, _, _, .cons x q => .cons (DVaway hp S x) (DVsaway hp S q)
end
def OkV (b : Addr → Prop) (n m : Nat) (H : Hp) (v : V) : Prop := ∃ (d : PyData) (as : List Addr), d.showable = true ∧ d.depth ≤ n ∧ d.shown.length ≤ m ∧ ∀ Hf, Keep b H Hf → DV Hf v d as
def OkVs (b : Addr → Prop) (n m : Nat) (H : Hp) (vs : List V) : Prop := ∃ (ds : List PyData) (as : List Addr), PyData.showableAll ds = true ∧ PyData.depthAll ds ≤ n ∧ ((PyData.shownAll ds).map (·.length)).sum ≤ m ∧ ds.length = vs.length ∧ ∀ Hf, Keep b H Hf → DVs Hf vs ds as
variable {n m n' m' : Nat} {v : V} {vs : List V} {t : Addr}
theorem OkV.less (h : OkV b' n m H v) (hs : ∀ a, b a → b' a) : OkV b n m H v := by
  obtain ⟨d, as, h1, h2, h3, h4⟩ := h
  exact ⟨d, as, h1, h2, h3, fun Hf z => h4 Hf (z.more hs)⟩
/-- what is not there yet may be written -/
theorem OkV.more {p : Addr} (h : OkV b n m H v) (np : H p = none) : OkV (fun a => b a ∨ a = p) n m H v := by
  obtain ⟨d, as, h1, h2, h3, h4⟩ := h
  refine ⟨d, as, h1, h2, h3, fun Hf z => h4 Hf fun a o na ha => z a o (fun q => ?_) ha⟩
  rcases q with q | q
  · exact na q
  · rw [q, np] at ha; cases ha
theorem OkV.keep (h : OkV b n m H v) (k : Keep b H H1) : OkV b n m H1 v := by
  obtain ⟨d, as, h1, h2, h3, h4⟩ := h
  exact ⟨d, as, h1, h2, h3, fun Hf z => h4 Hf (k.trans z)⟩
theorem OkVs.keep (h : OkVs b n m H vs) (k : Keep b H H1) : OkVs b n m H1 vs := by
  obtain ⟨d, as, h1, h2, h3, h4, h5⟩ := h
  exact ⟨d, as, h1, h2, h3, h4, fun Hf z => h5 Hf (k.trans z)⟩
theorem OkV.away {p : Addr} {o : HO} (h : OkV b n m H v) (hp : H p = some (.dT [])) (ne : ¬ b p) : OkV b n m (L2.upd H p o) v := by
  obtain ⟨d, as, h1, h2, h3, h4⟩ := h
  refine ⟨d, as, h1, h2, h3, fun Hf z => ?_⟩
  refine DVaway (p := p) (H := L2.upd Hf p (.dT [])) upd_same (fun a u na ha => by rwa [upd_ne na] at ha) (h4 _ fun a u na ha => ?_)
  by_cases e : a = p
  · rw [e] at ha ⊢
    rw [hp] at ha
    rw [upd_same]
    exact ha
  · rw [upd_ne e]
    exact z a u na (by rw [upd_ne e]; exact ha)
theorem OkV.mono (h : OkV b n m H v) (h1 : n ≤ n') (h2 : m ≤ m') : OkV b n' m' H v := by
  obtain ⟨d, as, z1, z2, z3, z4⟩ := h
  exact ⟨d, as, z1, Nat.le_trans z2 h1, Nat.le_trans z3 h2, z4⟩
theorem OkVs.less (h : OkVs b n m H vs) (h1 : m ≤ m') : OkVs b n m' H vs := by
  obtain ⟨ds, as, z1, z2, z3, z4⟩ := h
  exact ⟨ds, as, z1, z2, Nat.le_trans z3 h1, z4⟩
theorem OkV.non : OkV b 0 4 H .non := ⟨.none, [], rfl, by decide, by decide +kernel, fun _ _ => .non⟩
theorem OkV.bl {c : Bool} : OkV b 0 5 H (.bl c) := ⟨.bool c, [], rfl, by simp only [PyData.depth]; omega, by cases c <;> decide +kernel, fun _ _ => .bl c⟩
theorem OkV.int {i : Int} (h1 : i.natAbs.log2 < 1920) (h2 : (PyData.shown (.int i)).length ≤ 100) : OkV b 0 100 H (.int i) := ⟨.int i, [], decide_eq_true h1, by simp only [PyData.depth]; omega, h2, fun _ _ => .int i⟩
theorem OkV.str {x : Str} (h2 : (PyData.shown (.str x)).length ≤ 100) : OkV b 0 100 H (.str x) := ⟨.str x, [], rfl, by simp only [PyData.depth]; omega, h2, fun _ _ => .str x⟩
theorem OkVs.nil : OkVs b n m H [] := ⟨[], [], rfl, Nat.zero_le _, Nat.zero_le _, rfl, fun _ _ => .nil⟩
theorem OkVs.cons (h : OkV b n m H v) (t : OkVs b n m' H vs) : OkVs b n (m + m') H (v :: vs) := by
  obtain ⟨d, as, h1, h2, h3, h4⟩ := h
  obtain ⟨ds, bs, t1, t2, t3, t4, t5⟩ := t
  refine ⟨d :: ds, as ++ bs, by simp [PyData.showableAll, h1, t1], ?_, ?_, by rw [List.length_cons, List.length_cons, t4], fun Hf k => .cons (h4 Hf k) (t5 Hf k)⟩
  · simp only [PyData.depthAll]; omega
  · simp only [PyData.shownAll, List.map_cons, List.sum_cons]; omega
theorem shownAll_len : ∀ ds : List PyData, (PyData.shownAll ds).length = ds.length
  | [] => rfl
  | d :: ds => by simp only [PyData.shownAll, List.length_cons, shownAll_len ds]
theorem OkV.tup (h : OkVs b n m H vs) (e : H t = some (.tup vs)) (ne : ¬ b t) : OkV b (n + 1) (m + 2 * vs.length + 3) H (.ref t) := by
  obtain ⟨ds, as, h1, h2, h3, h4, h5⟩ := h
  refine ⟨.tuple ds, as, by simpa only [PyData.showable] using h1, by simp only [PyData.depth]; omega, ?_, fun Hf k => .tup (k _ _ ne e) (h5 Hf k)⟩
  have := tupleText_len_le (PyData.shownAll ds)
  rw [shownAll_len] at this
  simp only [PyData.shown]
  omega
theorem OkV.lst (h : OkVs b n m H vs) (e : H t = some (.lst vs)) (ne : ¬ b t) : OkV b (n + 1) (m + 2 * vs.length + 3) H (.ref t) := by
  obtain ⟨ds, as, h1, h2, h3, h4, h5⟩ := h
  refine ⟨.list ds, t :: as, by simpa only [PyData.showable] using h1, by simp only [PyData.depth]; omega, ?_, fun Hf k => .lst (k _ _ ne e) (h5 Hf k)⟩
  have := listText_len_le (PyData.shownAll ds)
  rw [shownAll_len] at this
  simp only [PyData.shown]
  omega
theorem OkV.dS {k : Str} (h : OkV b n m H v) (e : H t = some (.dK [(.inr k, v)])) (ne : ¬ b t) (hk : (PyData.shown (.str k)).length ≤ 100) : OkV b (n + 1) (m + 110) H (.ref t) := by
  obtain ⟨d, as, h1, h2, h3, h4⟩ := h
  refine ⟨.dict [(.str k, d)], _, by simp [PyData.showable, PyData.showableKv, h1], by simp only [PyData.depth, PyData.depthKv]; omega, ?_, fun Hf z => .dS (z _ _ ne e) (h4 Hf z)⟩
  have q := dictText_len_le (PyData.shownKv [(.str k, d)])
  have e2 : ((PyData.shownKv [(.str k, d)]).map (·.length)).sum = (PyData.shown (.str k)).length + 2 + d.shown.length := by
    simp only [PyData.shownKv, List.map_cons, List.map_nil, List.sum_cons, List.sum_nil]
    rw [PySem.Str.length_append, PySem.Str.length_append]
    rfl
  rw [e2] at q
  simp only [PyData.shown] at q hk ⊢
  simp only [PyData.shownKv, List.length_cons, List.length_nil] at q ⊢
  omega
theorem OkV.dT {ks : List L2.Key} (h : OkV b n m H v) (e : H t = some (.dT [(ks, v)])) (ne : ¬ b t) (hs : (PyData.tuple (ks.map kD)).showable = true) (hd : (PyData.tuple (ks.map kD)).depth ≤ n) (hk : (PyData.shown (.tuple (ks.map kD))).length ≤ 100) :
    OkV b (n + 1) (m + 110) H (.ref t) := by
  obtain ⟨d, as, h1, h2, h3, h4⟩ := h
  refine ⟨.dict [(.tuple (ks.map kD), d)], _, ?_, ?_, ?_, fun Hf z => .dT (z _ _ ne e) (h4 Hf z)⟩
  · simp only [PyData.showable, PyData.showableKv, h1] at hs ⊢
    rw [hs]; rfl
  · simp only [PyData.depth, PyData.depthKv] at hd ⊢
    omega
  · have q := dictText_len_le (PyData.shownKv [(.tuple (ks.map kD), d)])
    have e2 : ((PyData.shownKv [(.tuple (ks.map kD), d)]).map (·.length)).sum = (PyData.shown (.tuple (ks.map kD))).length + 2 + d.shown.length := by
      simp only [PyData.shownKv, List.map_cons, List.map_nil, List.sum_cons, List.sum_nil]
      rw [PySem.Str.length_append, PySem.Str.length_append]
      rfl
    rw [e2] at q
    simp only [PyData.shown] at q hk ⊢
    simp only [PyData.shownKv, List.length_cons, List.length_nil] at q ⊢
    omega
end
end FM
-- FmHot
set_option maxRecDepth 100000
set_option maxHeartbeats 4000000
/-! A def that is called within an except suite with the exception that is handled, and raises nothing. -/
namespace FM
open PySem PySem.Spec PyProof.Rows L2
structure FnPin (P : Program) (w : World) (K : PySem.W.Frag) (mg : Str → Option Value) (base : Heap) (k : Nat) (f : Addr) (fd : FuncData) (ps : List Str) (sp : Addr × Obj → Sp) : Prop where
  len : ∀ p vs H Q E, sp p vs H Q E → vs.length = ps.length
  run : ∀ (A : Around) (outer : List Env) (s : Shared) (H : Hp) (args : Args) (us : List Value) (vs : List V) (Q : VK) (p : Addr × Obj),
    L2H.RoomH k A → L2H.PinOk outer H s p → Env0 P w K mg base A outer s H → BindsTo s fd args (ps.zip us) → Vals vs us → sp p vs H Q E0 →
    codeAny (model P w) A (.call (.ref f) args) (CR CX0 outer P w H s Q E0) s
section
variable {P : Program} {w : World} {K : PySem.W.Frag} {mg : Str → Option Value} {base : Heap}
theorem FnPin.of {x qual : Str} {params : Arguments} {body : List Stmt} {scope : Scope} {dvs : List V} {kws : List (Str × V)} {f : Addr} {fd : FuncData}
    {N ps : List Str} {k : Nat} {sp : Addr × Obj → Sp} (F : FunD K x qual params body scope dvs kws f fd) (S : FnScope N ps scope)
    (len : ∀ p vs H Q E, sp p vs H Q E → vs.length = ps.length)
    (hb : ∀ (cdv : Value) (A : Around) (outer : List Env) (s : Shared) (H : Hp) (vs : List V) (Q : VK) (p : Addr × Obj),
      L2H.RoomH k (A.deeper (envOfC qual scope s.heap.objs.size f cdv)) → sp p vs H Q E0 →
      ∃ t, PSs (L2H.cxH CX0 P w K mg base N qual scope f cdv A outer s H E0 p) body t ∧ t { nx := fun _ H' => Q .non H', rt := Q } (L2.start N vs) H) :
    FnPin P w K mg base (k + 1) f fd ps sp := by
  obtain ⟨oc, od, dV, kV, doc, pm, an, cdv, ct, osl, rfl, lk, hcd, _, _⟩ := F.ex
  refine ⟨len, fun A outer s H args us vs Q p hr hp e0 hbt r hsp => ?_⟩
  have hl := len _ _ _ _ _ hsp
  have kin : K.In s.heap := e0.mod.kin.keeps fun b o e => (e0.bs b o e).1
  have lim : s.heap.NoLimit := e0.mod.nolimit.keeps fun b o e => (e0.bs b o e).1
  refine codeAny_call_function hr.depth (kin _ _ lk) rfl S.co S.gen rfl (PySem.W.codeRec_of kin hcd) (hbt _ _ _ _
    (wpAny_newFunctionEnv_cells S.kind ?_ fun env he s1 z => ?_))
  · rintro ⟨n, v⟩ hy
    exact (S.par n (List.of_mem_zip hy).1).elim Or.inl fun q => Or.inr ⟨q, PySem.W.cellsFrom_some _ _ _ (.inl q)⟩
  subst he
  refine ⟨lim.keeps z.toInCall.keep, codeAny_func ?_⟩
  obtain ⟨t, ht, q⟩ := hb cdv A outer s H vs Q p (hr.deeper _) hsp
  have I := L2H.inv_startH (E := E0) (CX := CX0) S hp e0 hl r z
  refine wpAny_mono (ht.run [] s1 (L2.start N vs) H _ I q) (fun fl s' hs => ?_) fun e s' hs => hs
  cases fl with
  | ret u =>
    obtain ⟨v, σ', H', J, rv, q⟩ := hs
    exact ⟨v, H', J.os, J.bare, J.base, J.hok, rv, q⟩
  | next =>
    obtain ⟨σ', H', J, q⟩ := hs
    exact ⟨V.non, H', J.os, J.bare, J.base, J.hok, rfl, q⟩
  | brk =>
    obtain ⟨_, _, _, q⟩ := hs
    exact q.elim
  | cont =>
    obtain ⟨_, _, _, q⟩ := hs
    exact q.elim
end
section
variable {X : Cx} {k : Nat} {f : Addr} {fd : FuncData} {ps : List Str} {sp : Addr × Obj → Sp} {p : Addr × Obj} {x : Str} {q pos : Pos} {e : Expr} {es : List Expr} {t : TA}
theorem pe_callPin (F : FnPin X.prog X.w X.K X.mg X.base k f fd ps sp) (hr : L2H.RoomH k X.A) (hp : p ∈ X.pn) (hg : Gl X x) (hm : X.mg x = some (.ref f))
    (hk : PySem.W.keepIn X.K (.ref f) = true) (hb : Binds X.K fd ps []) (ha : PA X (e :: es) t) (hdb : (x == ("__debug__" : Str)) = false := by decide)
    (he : starEach (e :: es) X.env = (false, eval e X.env) :: starEach es X.env := by rfl) (hpl : (backTo pos (starEach es X.env)).any (·.1) = false := by rfl) :
    PE X (.Call (.Name x q) (e :: es) [] pos) (fun σ H Q => t σ H fun vs H1 => sp p vs H1 Q E0) := by
  refine ⟨fun pins s σ H Q I h => wpAny_Call_Name_kw (ld_glob I hg hm ?_ hdb)⟩
  refine PySem.W.callWith_K (h₀ := X.base) I.ok.mod.kin hk (thn (ha.run pos pins s σ H _ I h) ?_) he hpl
  rintro us s1 ⟨vs, H1, I1, r, z⟩
  refine ⟨I1.kIn, ?_⟩
  have hl : us.length = ps.length := by
    rw [← r.length]
    exact F.len _ _ _ _ _ z
  have b := hb s1 us I1.kIn (by rw [List.append_nil]; exact hl)
  rw [List.append_nil] at b
  have P1 := I1.pin p (List.mem_append_left _ hp)
  have hpin : L2H.PinOk X.stack H1 s1 p := ⟨P1.1, P1.2.1, fun hm => (List.mem_cons.mp (I1.stkSub p.1 hm)).elim P1.2.2.1 P1.2.2.2.1, P1.2.2.2.2⟩
  refine wpAny_call (codeAny_mono (F.run X.A X.stack s1 H1 ⟨us, []⟩ us vs Q p hr hpin I1.env0 b r z) fun r s' hq => ?_)
  cases r with
  | error e => exact False.elim hq
  | ok fl =>
    cases fl with
    | ret u => exact I1.after hq
    | next => exact False.elim hq
    | brk => exact False.elim hq
    | cont => exact False.elim hq
end
end FM
-- FmGuard
set_option maxRecDepth 100000
set_option maxHeartbeats 4000000
/-! Promises of defs that run outside of any repr; the law's call with one code table. -/
namespace FM
open PySem PySem.Spec PyProof.Rows L2
structure FnG (P : Program) (w : World) (K : PySem.W.Frag) (mg : Str → Option Value) (base : Heap) (k : Nat) (f : Addr) (fd : FuncData) (ps : List Str) (sp : List V → Hp → VK → Prop) : Prop where
  len : ∀ vs H Q, sp vs H Q → vs.length = ps.length
  run : ∀ (A : Around) (outer : List Env) (s : Shared) (H : Hp) (args : Args) (us : List Value) (vs : List V) (Q : VK),
    A.guards = some [] → Room k A → Env0 P w K mg base A outer s H → BindsTo s fd args (ps.zip us) → Vals vs us → sp vs H Q →
    codeAny (model P w) A (.call (.ref f) args) (CR C8.CX0 outer P w H s Q C8.E0) s
section
variable {P : Program} {w : World} {K : PySem.W.Frag} {mg : Str → Option Value} {base : Heap}
theorem FnG.of {x qual : Str} {params : Arguments} {body : List Stmt} {scope : Scope} {dvs : List V} {kws : List (Str × V)} {f : Addr} {fd : FuncData}
    {N ps : List Str} {k : Nat} {sp : List V → Hp → VK → Prop} (F : FunD K x qual params body scope dvs kws f fd) (S : FnScope N ps scope) (len : ∀ vs H Q, sp vs H Q → vs.length = ps.length)
    (hb : ∀ (cdv : Value) (A : Around) (outer : List Env) (s : Shared) (H : Hp) (vs : List V) (Q : VK), fd.code = cdv → A.guards = some [] → Room k (A.deeper (envOfC qual scope s.heap.objs.size f cdv)) → sp vs H Q →
      ∃ t, PSs (cxOf C8.CX0 P w K mg base N qual scope f cdv A outer s H C8.E0) body t ∧ t { nx := fun _ H' => Q .non H', rt := Q } (L2.start N vs) H) :
    FnG P w K mg base (k + 1) f fd ps sp := by
  obtain ⟨oc, od, dV, kV, doc, pm, an, cdv, ct, osl, rfl, lk, hcd, _, _⟩ := F.ex
  exact ⟨len, fun A outer s H args us vs Q hg hr e0 hbt r h => LamX.run_ofS lk hcd S hr e0 hbt r (len _ _ _ h) fun hr' => hb cdv A outer s H vs Q rfl hg hr' h⟩
end
section
variable {X : Cx} {k : Nat} {f : Addr} {fd : FuncData} {ps : List Str} {sp : List V → Hp → VK → Prop} {x : Str} {q pos : Pos} {e : Expr} {es : List Expr} {t : TA}
theorem pe_callG (F : FnG X.prog X.w X.K X.mg X.base k f fd ps sp) (hgu : X.A.guards = some []) (hr : Room k X.A) (hg : Gl X x) (hm : X.mg x = some (.ref f))
    (hk : PySem.W.keepIn X.K (.ref f) = true) (hb : Binds X.K fd ps []) (ha : PA X (e :: es) t) (hdb : (x == ("__debug__" : Str)) = false := by decide)
    (he : starEach (e :: es) X.env = (false, eval e X.env) :: starEach es X.env := by rfl) (hpl : (backTo pos (starEach es X.env)).any (·.1) = false := by rfl) :
    PE X (.Call (.Name x q) (e :: es) [] pos) (fun σ H Q => t σ H fun vs H1 => sp vs H1 Q) := by
  refine ⟨fun pins s σ H Q I h => wpAny_Call_Name_kw (ld_glob I hg hm ?_ hdb)⟩
  refine PySem.W.callWith_K (h₀ := X.base) I.ok.mod.kin hk (thn (ha.run pos pins s σ H _ I h) ?_) he hpl
  rintro us s1 ⟨vs, H1, I1, r, z⟩
  have b := hb s1 us I1.kIn (by rw [List.append_nil, ← r.length]; exact F.len _ _ _ z)
  rw [List.append_nil] at b
  refine ⟨I1.kIn, wpAny_call (codeAny_mono (F.run X.A X.stack s1 H1 ⟨us, []⟩ us vs Q hgu hr I1.env0 b r z) fun res s' hq => ?_)⟩
  cases res with
  | error e => exact False.elim hq
  | ok fl =>
    cases fl with
    | ret u => exact I1.after hq
    | next => exact False.elim hq
    | brk => exact False.elim hq
    | cont => exact False.elim hq
end
/-- the law's own call: T is the table of the code at c -/
theorem law_callG {P : Program} {w : World} {K : PySem.W.Frag} {mg mb : Str → Option Value} {k : Nat} {fa a c T : Addr} {fd : FuncData} {x : Str} {sp : List V → Hp → VK → Prop} {s : Shared} {vs : List Value} {ns : List Int}
    (kin : K.In s.heap) (g1 : s.heap.Ns mainGlobals mg) (g2 : s.heap.Ns builtinsNs mb) (g3 : ∀ x : Str, x ≠ "__name__" → mb x = bootBuiltins x) (g4 : s.heap.NoLimit) (g5 : s.gens = #[])
    (tT : s.heap.get? T = some { cls := .none, data := .fields #[] }) (tK : K.lookup T = none) (tC : PySem.W.CodeHd s.heap c T) (g6 : s.heap.BuiltinsAt mg T) (g7 : ∃ mm, s.heap.Ns sysModules mm)
    (la : s.heap.get? a = some { cls := .type "list", data := .seq vs.toArray }) (li : IntsAre vs ns) (ll : ns.length ≤ sizeLine) (hr : Room k callerA)
    (F : ∀ base : Heap, K.In base → base.Ns mainGlobals mg → LamX.TabB base mg c T → (∃ o, base.get? sysModules = some o) → FnG P w K mg base k fa fd [x] sp) (hbind : ∀ (s : Shared) (u : Value), BindsTo s fd ⟨[u], []⟩ [(x, u)])
    (hsp : ∀ H : Hp, H T = some (.tbl #[]) → SqL K H a (ns.map V.int) → sp [.ref a] H fun v _ => v = .bl true) :
    codeAny (model P w) callerA (.call (.ref fa) ⟨[.ref a], []⟩) (fun r s' => r = .ok (.ret (.bool true)) ∧ OldK s.heap s'.heap ∧ s'.os = s.os ∧ AllBare s'.gens) s := by
  have rel := vals_ints li
  have ne : a ≠ T := fun z => by rw [z, tT] at la; cases la
  let H : Hp := fun b => if b = T then some (.tbl #[]) else if b = a ∧ K.lookup a = none then some (.frz { cls := .type "list", data := .seq vs.toArray } (.lst (ns.map V.int))) else none
  have hT : H T = some (.tbl #[]) := if_pos rfl
  have other : ∀ b, b ≠ T → ¬ (b = a ∧ K.lookup a = none) → H b = none := fun b h1 h2 => (if_neg h1).trans (if_neg h2)
  have far : ∀ b o, s.heap.get? b = some o → (∀ vs n, o.data ≠ .seq vs n) → o.data ≠ .fields #[] → H b = none := fun b o e h1 h2 => by
    refine other b (fun z => ?_) fun z => ?_
    · rw [z, tT] at e; cases e; exact h2 rfl
    · rw [z.1, la] at e; cases e; exact h1 _ _ rfl
  have ok : HOk P w H s.heap := fun b u e => by
    by_cases h1 : b = T
    · subst h1
      cases hT.symm.trans e
      exact tT
    · by_cases h2 : b = a ∧ K.lookup a = none
      · cases ((if_neg h1).trans (if_pos h2)).symm.trans e
        rw [h2.1]
        exact ⟨la, by rw [List.length_map]; exact ll, vs, _, rel, la⟩
      · cases (other b h1 h2).symm.trans e
  have seq : SqL K H a (ns.map V.int) := by
    cases hk : K.lookup a with
    | none => exact .inl (.inr ⟨_, (if_neg ne).trans (if_pos ⟨rfl, hk⟩)⟩)
    | some o =>
      have e := kin a o hk
      rw [la] at e
      cases e
      exact .inr ⟨_, vs.toArray, _, hk, rfl, rfl, rfl, by rw [List.size_toArray, li.length]; exact ll, by simpa using rel⟩
  let B : Heap := hidT s.heap H
  have inB : ∀ b o, s.heap.get? b = some o → H b = none → B.get? b = some o := fun _ _ e n => hidT_get e n
  have dict : ∀ b o (es : Array DictEntry) (ep : Nat), s.heap.get? b = some o → o.data = .dict es ep → B.get? b = some o := fun b o es ep e d => inB b o e (far b o e (fun _ _ z => by rw [d] at z; cases z) fun z => by rw [d] at z; cases z)
  have names : ∀ (b : Addr) (m : Str → Option Value), s.heap.Ns b m → B.Ns b m := fun b m h => by
    obtain ⟨o, es, ep, e, d, r⟩ := h
    exact ⟨o, es, ep, dict b o es ep e d, d, r⟩
  have kinB : K.In B := fun b o e => by
    refine inB b o (kin b o e) (other b (fun z => ?_) fun z => ?_)
    · rw [z, tK] at e; cases e
    · rw [z.1, z.2] at e; cases e
  have mod : L2.Mod K mg B := by
    obtain ⟨mc, l1, l2⟩ := g4
    exact ⟨kinB, names _ _ g1, ⟨mb, names _ _ g2, g3⟩, ⟨mc, names _ _ l1, l2⟩⟩
  have tab : LamX.TabB B mg c T := by
    refine ⟨?_, ?_, fun z => ?_⟩
    · obtain ⟨o, fs, file, tf, flags, tg, inF, text, tt, e, r1, r2, r3, rest⟩ := tC
      refine ⟨o, fs, file, tf, flags, tg, inF, text, tt, inB c o e (far c o e (fun _ _ z => ?_) fun z => ?_), r1, r2, r3, rest⟩
      · rw [r2] at z; cases z
      · rw [r2] at z; cases z; simp at r3
    · obtain ⟨bm, ob, b1, b2, b3, b4, b5, b6, b7, b8⟩ := g6
      refine ⟨bm, ob, b1, b2, b3, b4, inB bm ob b5 (far bm ob b5 (fun _ _ z => ?_) fun z => ?_), b6, b7, b8⟩
      · rw [b8] at z; cases z
      · rw [b8] at z; cases z
    · obtain ⟨o, es, ep, e, d, _⟩ := g1
      rw [z, tT] at e; cases e; cases d
  have e0 : Env0 P w K mg B callerA [] s H := by
    constructor
    · rfl
    · exact mod
    · exact fun b o e => of_hidT e
    · exact Nat.le_of_eq (hidT_size _ _)
    · trivial
    · intro b hb; exact nomatch (show b ∈ ([] : List Addr) from hb)
    · exact ok
    · exact .of_eq g5
  refine codeAny_mono ((F B kinB (names _ _ g1) tab (by obtain ⟨mm, h⟩ := g7; obtain ⟨o, es, ep, e, _⟩ := names _ _ h; exact ⟨o, e⟩)).run callerA [] s H ⟨[.ref a], []⟩ [.ref a] [.ref a] _ rfl hr e0 (hbind s (.ref a)) (.cons rfl .nil) (hsp H hT seq)) fun r s' h => ?_
  cases r with
  | error e => exact False.elim h
  | ok fl =>
    cases fl with
    | next => exact False.elim h
    | brk => exact False.elim h
    | cont => exact False.elim h
    | ret u =>
      obtain ⟨v, H', os, bare, un, ok', ru, q⟩ := h
      have q' : v = .bl true := q
      subst q'
      cases ru
      have stay : ∀ b o, b ≠ T → s.heap.get? b = some o → s'.heap.get? b = some o := fun b o h1 e => by
        by_cases h2 : b = a ∧ K.lookup a = none
        · have z := un.frzs b _ _ ((if_neg h1).trans (if_pos h2))
          rw [h2.1, la] at e
          cases e
          rw [h2.1] at z ⊢
          exact (ok' a _ z).1
        · exact un.keep b o e (other b h1 h2) (fun z => nomatch (show b ∈ ([] : List Addr) from z)) (fun z => nomatch z)
      obtain ⟨more, tm⟩ := un.tbls T #[] hT
      have tN : s'.heap.get? T = some { cls := .none, data := .fields (#[] ++ more) } := ok' T _ tm
      refine ⟨rfl, ⟨fun b o e => ?_, fun b o e => ?_⟩, os, bare⟩
      · by_cases h1 : b = T
        · subst h1
          cases tT.symm.trans e
          exact .inr (.inl ⟨(tC.tab tT).isCodeTable, rfl, #[], more, rfl, tN⟩)
        · exact .inl (stay b o h1 e)
      · by_cases h1 : b = T
        · subst h1
          exact ⟨_, tN⟩
        · exact ⟨o, stay b o h1 e⟩
end FM
-- K1Pick
set_option maxRecDepth 100000
set_option maxHeartbeats 1000000
namespace K0
open PySem L2 FM He
def BagAt (b : Addr) (H : Hp) : Prop := ∃ g s c, H b = some (bagO g s c)
theorem BagAt.same {b : Addr} {H H1 : Hp} (h : BagAt b H) (S : Same H H1) : BagAt b H1 := by
  obtain ⟨g, s, c, e⟩ := h
  exact ⟨g, s, c, S _ _ e⟩
abbrev J (b : Addr) : Addr → Prop := fun a => a = b
/-- all but tables and one object stay -/
def KeepN (b : Addr) (H H' : Hp) : Prop := ∀ a o, a ≠ b → (∀ ps, o ≠ .tbl ps) → H a = some o → H' a = some o
theorem KeepN.keep {b : Addr} {H H' : Hp} (k : Keep (J b) H H') : KeepN b H H' := fun a o n _ h => k a o n h
theorem KeepN.ext {b : Addr} {H H' : Hp} (k : LamX.ExtN H H') : KeepN b H H' := fun a o _ n h => k a o h n
theorem KeepN.same {b : Addr} {H H' : Hp} (k : Same H H') : KeepN b H H' := KeepN.ext (LamX.ExtN.of k)
theorem KeepN.refl {b : Addr} {H : Hp} : KeepN b H H := fun _ _ _ _ h => h
theorem KeepN.trans {b : Addr} {H H1 H2 : Hp} (x : KeepN b H H1) (y : KeepN b H1 H2) : KeepN b H H2 := fun a o n m h => y a o n m (x a o n m h)
theorem bag_ne {b p : Addr} {H : Hp} (h : BagAt b H) (n : H p = none) : p ≠ b := by
  obtain ⟨g, s, c, e⟩ := h
  exact (ne_of_none e n).symm
theorem tabs_keep {Ts : List (Addr × Str)} {H H1 : Hp} {b : Addr} (h : LamX.Tabs Ts H) (hb : BagAt b H) (k : Keep (J b) H H1) : LamX.Tabs Ts H1 := fun p hp => by
  obtain ⟨g, s, d, e⟩ := hb
  obtain ⟨ps, h1, h2, h3⟩ := h p hp
  refine ⟨ps, k _ _ (ne_of h1 e (fun z => nomatch z)) h1, h2, fun pos cv hc => ?_⟩
  obtain ⟨c, e1, e2⟩ := h3 pos cv hc
  exact ⟨c, e1, k _ _ (ne_of e2 e fun z => by
    have z' : HO.ext _ = HO.lst _ := z
    cases z') e2⟩
theorem sql_far {K : PySem.W.Frag} {H Hf : Hp} {a b : Addr} {o : HO} {xs : List V} (h : SqL K H a xs) (n : H b = none) (k : KeepN b (upd H b o) Hf) : SqL K Hf a xs := by
  rcases h with (h | ⟨u, h⟩) | h
  · have ne := ne_of_none h n
    exact .inl (.inl (k _ _ ne (fun _ => by simp) (by rw [upd_ne ne]; exact h)))
  · have ne := ne_of_none h n
    exact .inl (.inr ⟨u, k _ _ ne (fun _ => by simp) (by rw [upd_ne ne]; exact h)⟩)
  · exact .inr h
/-- so it is, whatever becomes of the bag and of the tables -/
def AL (b : Addr) (φ : Hp → V → Prop) (H : Hp) (y : V) : Prop := ∀ Hf, KeepN b H Hf → φ Hf y
section
variable {b : Addr} {φ ψ : Hp → V → Prop} {H H0 H1 : Hp} {y v : V} {σ : L2.St} {t : L2.TE} {ts : L2.TA} {φs : List (Hp → V → Prop)} {K : PySem.W.Frag}
theorem AL.far (h : AL b φ H y) (k : KeepN b H H1) : AL b φ H1 y := fun Hf z => h Hf (k.trans z)
theorem AL.same (h : AL b φ H y) (S : Same H H1) : AL b φ H1 y := h.far (KeepN.same S)
theorem AL.here (h : AL b φ H y) : φ H y := h H KeepN.refl
theorem AL.imp (h : AL b φ H y) (f : ∀ H y, φ H y → ψ H y) : AL b ψ H y := fun Hf z => f _ _ (h Hf z)
def EltA (b : Addr) (φ : Hp → V → Prop) (H0 : Hp) (σ : L2.St) (t : L2.TE) : Prop := ∀ H Q, Same H0 H → (∀ v H', Same H H' → AL b φ H' v → Q v H') → t σ H Q
def AllA (b : Addr) : List (Hp → V → Prop) → Hp → List V → Prop
  | [], _, [] => True
  | φ :: φs, H, y :: ys => AL b φ H y ∧ AllA b φs H ys
  | _, _, _ => False
def AllP : List (Hp → V → Prop) → Hp → List V → Prop
  | [], _, [] => True
  | φ :: φs, H, y :: ys => φ H y ∧ AllP φs H ys
  | _, _, _ => False
theorem AllA.far (k : KeepN b H H1) : ∀ {φs : List (Hp → V → Prop)} {ys : List V}, AllA b φs H ys → AllA b φs H1 ys
  | [], [], _ => trivial
  | _ :: _, _ :: _, h => ⟨h.1.far k, AllA.far k h.2⟩
  | [], _ :: _, h => h.elim
  | _ :: _, [], h => h.elim
theorem AllA.here : ∀ {φs : List (Hp → V → Prop)} {ys : List V}, AllA b φs H ys → AllP φs H ys
  | [], [], _ => trivial
  | _ :: _, _ :: _, h => ⟨h.1.here, AllA.here h.2⟩
  | [], _ :: _, h => h.elim
  | _ :: _, [], h => h.elim
theorem AllA.len : ∀ {φs : List (Hp → V → Prop)} {ys : List V}, AllA b φs H ys → ys.length = φs.length
  | [], [], _ => rfl
  | _ :: _, _ :: _, h => by rw [List.length_cons, List.length_cons, AllA.len h.2]
  | [], _ :: _, h => h.elim
  | _ :: _, [], h => h.elim
def EltsL (b : Addr) (φs : List (Hp → V → Prop)) (H0 : Hp) (σ : L2.St) (ts : L2.TA) : Prop := ∀ H Q, Same H0 H → (∀ vs H', Same H H' → AllA b φs H' vs → Q vs H') → ts σ H Q
theorem el_c (h : ∀ H, φ H v) : EltA b φ H0 σ (tC v) := fun H Q S k => k _ _ (Same.refl H) fun Hf _ => h Hf
theorem el_var {i : Nat} (hv : σ[i]? = some (some v)) (h : AL b φ H0 v) : EltA b φ H0 σ (tVar i) := fun H Q S k => ⟨v, hv, k _ _ (Same.refl H) (h.same S)⟩
theorem elL_nil : EltsL b [] H0 σ tNil := fun H Q S k => k _ _ (Same.refl H) trivial
theorem elL_cons (h : EltA b φ H0 σ t) (hs : EltsL b φs H0 σ ts) : EltsL b (φ :: φs) H0 σ (tCons t ts) := fun H Q S k =>
  h H _ S fun v H1 S1 o => hs H1 _ (S.trans S1) fun vs H2 S2 os => k _ _ (S1.trans S2) ⟨o.same S2, os⟩
theorem el_imp (f : ∀ H y, φ H y → ψ H y) (h : EltA b φ H0 σ t) : EltA b ψ H0 σ t := fun H Q S k => h H Q S fun v H' S' o => k v H' S' (o.imp f)
theorem el_tup (hb : BagAt b H0) (h : EltsL b φs H0 σ ts) (hz : φs.length ≤ 10 := by decide) (hψ : ∀ H p xs, H p = some (.tup xs) → AllP φs H xs → ψ H (.ref p)) : EltA b ψ H0 σ (tTup ts) := fun H Q S k =>
  h H _ S fun vs H1 S1 os => ⟨by rw [os.len, sizeLine_eq]; omega, fun p np => k _ _ (S1.trans (same_upd np)) fun Hf z =>
    hψ Hf p vs (z p _ (bag_ne (hb.same (S.trans S1)) np) (fun _ => by simp) upd_same) (AllA.here (os.far ((KeepN.same (same_upd np)).trans z)))⟩
theorem el_lst (hb : BagAt b H0) (h : EltsL b φs H0 σ ts) (hz : φs.length ≤ 10 := by decide) (hψ : ∀ H p xs, H p = some (.lst xs) → AllP φs H xs → ψ H (.ref p)) : EltA b ψ H0 σ (tLst ts) := fun H Q S k =>
  h H _ S fun vs H1 S1 os => ⟨by rw [os.len, sizeLine_eq]; omega, fun p np => k _ _ (S1.trans (same_upd np)) fun Hf z =>
    hψ Hf p vs (z p _ (bag_ne (hb.same (S.trans S1)) np) (fun _ => by simp) upd_same) (AllA.here (os.far ((KeepN.same (same_upd np)).trans z)))⟩
theorem el_dnew (hb : BagAt b H0) (hψ : ∀ H p, H p = some (.dK []) → ψ H (.ref p)) : EltA b ψ H0 σ tDNewK := fun H Q S k p np => k _ _ (same_upd np) fun Hf z =>
  hψ Hf p (z p _ (bag_ne (hb.same S) np) (fun _ => by simp) upd_same)
theorem el_dS {k0 : Str} {x : V} (hb : BagAt b H0) (hψ : ∀ H p kvs, H p = some (.dK kvs) → ψ H (.ref p)) : EltA b ψ H0 σ (tDisp [(tC (.str k0), tC x)]) := fun H Q S k p np => ⟨upd_same, [(.inr k0, x)], rfl, by show 1 ≤ 15; decide, by
  rw [upd_upd]
  exact k _ _ (same_upd np) fun Hf z => hψ Hf p _ (z p _ (bag_ne (hb.same S) np) (fun _ => by simp) upd_same)⟩
theorem el_dV {i j : Nat} {k0 : Str} {x : V} (hi : σ[i]? = some (some (.str k0))) (hj : σ[j]? = some (some x)) (hb : BagAt b H0) (hψ : ∀ H p kvs, H p = some (.dK kvs) → ψ H (.ref p)) : EltA b ψ H0 σ (tDisp [(tVar i, tVar j)]) := fun H Q S k p np => ⟨_, hi, _, hj, upd_same, [(.inr k0, x)], rfl, by show 1 ≤ 15; decide, by
  rw [upd_upd]
  exact k _ _ (same_upd np) fun Hf z => hψ Hf p _ (z p _ (bag_ne (hb.same S) np) (fun _ => by simp) upd_same)⟩
/-! items of one kind -/
def EltsS (b : Addr) (φ : Hp → V → Prop) (c : Nat) (H0 : Hp) (σ : L2.St) (ts : L2.TA) : Prop := ∀ H Q, Same H0 H → (∀ vs H', Same H H' → vs.length = c → (∀ y ∈ vs, AL b φ H' y) → Q vs H') → ts σ H Q
theorem es_nil : EltsS b φ 0 H0 σ tNil := fun H Q S k => k _ _ (Same.refl H) rfl fun y hy => nomatch hy
theorem es_cons {c : Nat} (h : EltA b φ H0 σ t) (hs : EltsS b φ c H0 σ ts) : EltsS b φ (c + 1) H0 σ (tCons t ts) := fun H Q S k =>
  h H _ S fun v H1 S1 o => hs H1 _ (S.trans S1) fun vs H2 S2 l os => k _ _ (S1.trans S2) (by rw [List.length_cons, l]) fun y hy => by
    rcases List.mem_cons.mp hy with e | e
    · rw [e]; exact o.same S2
    · exact os y e
theorem asg_es {c : Nat} {g : TG} {D : Ends} (h : EltsS b φ c H σ ts) (hc : c ≤ 100) (k : ∀ p vs H', Same H H' → H' p = some (.lst vs) → H p = none → vs.length = c → (∀ y ∈ vs, AL b φ H' y) → g (.ref p) σ H' D.nx) : tAsg (tLst ts) g D σ H :=
  h H _ (Same.refl H) fun vs H1 S1 l ok => ⟨by rw [l, sizeLine_eq]; omega, fun p np => k p vs _ (S1.trans (same_upd np)) upd_same (by
    cases e : H p with
    | none => rfl
    | some o => rw [S1 _ _ e] at np; cases np) l fun y hy => (ok y hy).same (same_upd np)⟩
theorem cat_es {i c : Nat} {p : Addr} {xs : List V} {g : TG} {D : Ends} (hi : σ[i]? = some (some (.ref p))) (e : H p = some (.lst xs)) (x1 : xs.length < 500) (hx : ∀ y ∈ xs, AL b φ H y) (h : EltsS b φ c H σ ts) (hc : c ≤ 100)
    (k : ∀ q vs H', Same H H' → H' q = some (.lst vs) → vs.length = xs.length + c → (∀ y ∈ vs, AL b φ H' y) → g (.ref q) σ H' D.nx) : tAsg (tOp rCat (tVar i) (tLst ts)) g D σ H := by
  refine ⟨_, hi, h H _ (Same.refl H) fun vs H1 S1 l ok => ⟨by rw [l, sizeLine_eq]; omega, fun q nq => ?_⟩⟩
  have S2 := S1.trans (same_upd (o := .lst vs) nq)
  refine ⟨p, q, xs, vs, rfl, rfl, S2 _ _ e, upd_same, by rw [l, sizeLine_eq]; omega, fun r nr => ?_⟩
  refine k r _ _ (S2.trans (same_upd nr)) upd_same (by rw [List.length_append, l]) fun y hy => ?_
  rcases List.mem_append.mp hy with z | z
  · exact (hx y z).same (S2.trans (same_upd nr))
  · exact ((ok y z).same (same_upd nq)).same (same_upd nr)
theorem pick_at {p : Addr} {xs : List V} {Q : VK} (hb : BagAt b H) (hp : p ≠ b) (e : H p = some (.lst xs)) (h0 : 0 < xs.length) (h1 : xs.length < 1000) (hx : ∀ y ∈ xs, AL b φ H y)
    (k : ∀ y H', Keep (J b) H H' → BagAt b H' → AL b φ H' y → Q y H') : spPick K [.ref b, .ref p] H Q E0 := by
  obtain ⟨g, s, d, eb⟩ := hb
  have st : ∀ g' c', ItemsOf K (upd H b (bagO g' s c')) (.ref p) xs := fun g' c' => .inl ⟨p, rfl, .inl (SqL.of (by rw [upd_ne hp]; exact e))⟩
  exact ⟨b, g, s, d, .ref p, xs, rfl, eb, .inl ⟨p, rfl, .inl (SqL.of e)⟩, st, h0, by omega, fun y g' c' hy => k y _ (Keep.upd rfl) ⟨g', s, c', upd_same⟩ ((hx y hy).far (KeepN.keep (Keep.upd rfl)))⟩
theorem pick_lst {j c : Nat} {Q : VK} (hb : BagAt b H) (h0 : σ[j]? = some (some (.ref b))) (h : EltsS b φ c H σ ts) (c0 : 0 < c) (c1 : c < 1000)
    (k : ∀ y H', Keep (J b) H H' → BagAt b H' → AL b φ H' y → Q y H') : tCall (spPick K) [] E0 (tCons (tVar j) (tCons (tLst ts) tNil)) σ H Q := by
  refine ⟨_, h0, h H _ (Same.refl H) fun vs H1 S1 l ok => ⟨by rw [sizeLine_eq]; omega, fun p np => ?_⟩⟩
  exact pick_at ((hb.same S1).same (same_upd np)) (bag_ne (hb.same S1) np) upd_same (by omega) (by omega) (fun y hy => (ok y hy).same (same_upd np)) fun y H' k' b' a => k y H' ((Keep.of (S1.trans (same_upd np))).trans k') b' a
theorem pick_vr {i j : Nat} {p : Addr} {xs : List V} {Q : VK} (hb : BagAt b H) (h0 : σ[j]? = some (some (.ref b))) (hi : σ[i]? = some (some (.ref p))) (hp : p ≠ b) (e : H p = some (.lst xs)) (x0 : 0 < xs.length) (x1 : xs.length < 1000) (hx : ∀ y ∈ xs, AL b φ H y)
    (k : ∀ y H', Keep (J b) H H' → BagAt b H' → AL b φ H' y → Q y H') : tCall (spPick K) [] E0 (tCons (tVar j) (tCons (tVar i) tNil)) σ H Q :=
  ⟨_, h0, _, hi, pick_at hb hp e x0 x1 hx k⟩
theorem pick_cat {i j c : Nat} {p : Addr} {xs : List V} {Q : VK} (hb : BagAt b H) (h0 : σ[j]? = some (some (.ref b))) (hi : σ[i]? = some (some (.ref p))) (e : H p = some (.lst xs)) (x1 : xs.length < 500) (hx : ∀ y ∈ xs, AL b φ H y) (h : EltsS b φ c H σ ts) (c0 : 0 < c) (c1 : c < 500)
    (k : ∀ y H', Keep (J b) H H' → BagAt b H' → AL b φ H' y → Q y H') : tCall (spPick K) [] E0 (tCons (tVar j) (tCons (tOp rCat (tVar i) (tLst ts)) tNil)) σ H Q := by
  refine ⟨_, h0, _, hi, h H _ (Same.refl H) fun vs H1 S1 l ok => ⟨by rw [sizeLine_eq]; omega, fun q nq => ?_⟩⟩
  have S2 := S1.trans (same_upd (o := .lst vs) nq)
  refine ⟨p, q, xs, vs, rfl, rfl, S2 _ _ e, upd_same, by rw [sizeLine_eq]; omega, fun r nr => ?_⟩
  have S3 := S2.trans (same_upd (o := .lst (xs ++ vs)) nr)
  refine pick_at (hb.same S3) (bag_ne (hb.same S2) nr) upd_same (by rw [List.length_append]; omega) (by rw [List.length_append]; omega) (fun y hy => ?_) fun y H' k' b' a => k y H' ((Keep.of S3).trans k') b' a
  rcases List.mem_append.mp hy with z | z
  · exact (hx y z).same S3
  · exact ((ok y z).same (same_upd nq)).same (same_upd nr)
end
/-! kinds -/
section
variable {K : PySem.W.Frag} {H : Hp}
/-- neither a text nor a tuple -/
def Nst (K : PySem.W.Frag) (H : Hp) (y : V) : Prop := NotTy K H y "str" ∧ NotTy K H y "tuple"
theorem nst_non : Nst K H .non := ⟨⟨_, .base .non, kit_ty (by decide +kernel)⟩, ⟨_, .base .non, kit_ty (by decide +kernel)⟩⟩
theorem nst_int {i : Int} : Nst K H (.int i) := ⟨⟨_, .base (.int i), kit_ty (by decide +kernel)⟩, ⟨_, .base (.int i), kit_ty (by decide +kernel)⟩⟩
theorem nst_bl {i : Bool} : Nst K H (.bl i) := ⟨⟨_, .base (.bl i), kit_ty (by decide +kernel)⟩, ⟨_, .base (.bl i), kit_ty (by decide +kernel)⟩⟩
theorem nst_lst {p : Addr} {xs : List V} (e : H p = some (.lst xs)) : Nst K H (.ref p) := ⟨⟨_, .base (.lst e), kit_ty (by decide +kernel)⟩, ⟨_, .base (.lst e), kit_ty (by decide +kernel)⟩⟩
theorem nst_dK {p : Addr} {xs : List (L2.Key × V)} (e : H p = some (.dK xs)) : Nst K H (.ref p) := ⟨⟨_, .base (.dK e), kit_ty (by decide +kernel)⟩, ⟨_, .base (.dK e), kit_ty (by decide +kernel)⟩⟩
theorem not_str_tup {p : Addr} {xs : List V} (e : H p = some (.tup xs)) : NotTy K H (.ref p) "str" := ⟨_, ty_tup (SqT.of e), kit_ty (by decide +kernel)⟩
theorem not_tup_str {z : Str} : NotTy K H (.str z) "tuple" := ⟨_, .base (.str z), kit_ty (by decide +kernel)⟩
theorem Nst.word {y : V} (h : Nst K H y) : WordV K H y false := .inr ⟨h.1, rfl⟩
theorem bad_str {z : Str} (l : z.length ≤ 1000 := by decide) (h : isWord z = false := by decide +kernel) : WordV K H (.str z) false := .inl ⟨z, rfl, by rw [sizeLine_eq]; omega, h⟩
theorem good_str {z : Str} (l : z.length ≤ 1000 := by decide) (h : isWord z = true := by decide +kernel) : WordV K H (.str z) true := .inl ⟨z, rfl, by rw [sizeLine_eq]; omega, h⟩
theorem bad_tup {p : Addr} {xs : List V} (e : H p = some (.tup xs)) : WordV K H (.ref p) false := .inr ⟨not_str_tup e, rfl⟩
end
end K0
-- K1Word
set_option maxRecDepth 100000
set_option maxHeartbeats 1000000
namespace K0
open PySem L2 FM He
/-- a word over the letters of signs, at most so long -/
def Over (signs : Str) (m : Nat) (z : Str) : Prop := z.length ≤ m ∧ ∀ c ∈ z.cps.toList, c ∈ signs.cps.toList
theorem singles_sum : ∀ zs : List Str, (∀ z ∈ zs, z.length = 1) → (zs.map (·.length)).sum = zs.length
  | [], _ => rfl
  | z :: zs, h => by
    have h1 := h z List.mem_cons_self
    have h2 := singles_sum zs fun y hy => h y (List.mem_cons_of_mem _ hy)
    simp only [List.map_cons, List.sum_cons, List.length_cons]
    omega
theorem singles_join {signs : Str} : ∀ zs : List Str, (∀ z ∈ zs, ∃ c ∈ signs.cps.toList, z = ⟨#[c]⟩) → (Str.join "" zs).length = zs.length ∧ ∀ c ∈ (Str.join "" zs).cps.toList, c ∈ signs.cps.toList
  | [], _ => ⟨rfl, fun c hc => by
    have : c ∈ ([] : List Nat) := hc
    cases this⟩
  | [z], h => by
    obtain ⟨c, hc, rfl⟩ := h z List.mem_cons_self
    refine ⟨rfl, fun d hd => ?_⟩
    have e : d = c := by simpa [Str.join] using hd
    rw [e]
    exact hc
  | z :: y :: zs, h => by
    obtain ⟨c, hc, rfl⟩ := h z List.mem_cons_self
    obtain ⟨l1, l2⟩ := singles_join (signs := signs) (y :: zs) fun x hx => h x (List.mem_cons_of_mem _ hx)
    have e : Str.join "" (⟨#[c]⟩ :: y :: zs) = (⟨#[c]⟩ : Str) ++ "" ++ Str.join "" (y :: zs) := rfl
    rw [e]
    refine ⟨?_, fun d hd => ?_⟩
    · rw [PySem.Str.length_append, PySem.Str.length_append, l1]
      show 1 + 0 + (zs.length + 1) = zs.length + 1 + 1
      omega
    · have hd2 : d = c ∨ d ∈ (Str.join "" (y :: zs)).cps.toList := by
        have z : ((⟨#[c]⟩ : Str) ++ "" ++ Str.join "" (y :: zs)).cps.toList = [c] ++ (Str.join "" (y :: zs)).cps.toList := by
          show ((#[c] ++ #[]) ++ (Str.join "" (y :: zs)).cps).toList = _
          simp
        rw [z] at hd
        simpa using hd
      rcases hd2 with rfl | hd2
      · exact hc
      · exact l2 d hd2
def spWord : Sp := fun vs H Q _ => ∃ (b : Addr) (signs : Str) (m : Nat), vs = [.ref b, .str signs, .int m] ∧ BagAt b H ∧ 0 < signs.length ∧ signs.length ≤ 1000 ∧ m ≤ 1000 ∧
  ∀ z H', Keep (J b) H H' → BagAt b H' → Over signs m z → Q (.str z) H'
section
variable {P : Program} {w : World} {K : PySem.W.Frag} {mg : Str → Option Value} {base : Heap}
theorem ok_law_drawn_word {f : Addr} {fd : FuncData} (F : FnP K "_law_drawn_word" s__law_drawn_word f fd) (T : TP K mg) : FnOk P w K mg base CX0 3 f fd ["_law_bag", "_law_signs", "_law_most"] spWord := by
  obtain ⟨d__law_pick, F__law_pick⟩ := T.f__law_pick
  have G__law_pick := ok_law_pick (P := P) (w := w) (base := base) F__law_pick T
  have b__law_pick : Binds K d__law_pick ["_law_bag", "_law_items"] [] := F__law_pick.bindsN fun _ _ _ _ _ _ us hl => match us, hl with | [_, _], _ => rfl
  obtain ⟨d__law_throw, F__law_throw⟩ := T.f__law_throw
  have G__law_throw := ok_law_throw (P := P) (w := w) (base := base) F__law_throw T
  have b__law_throw : Binds K d__law_throw ["_law_bag", "_law_total"] [] := F__law_throw.bindsN fun _ _ _ _ _ _ us hl => match us, hl with | [_, _], _ => rfl
  refine F.ok sc__law_drawn_word (fun vs H Q E h => ?_) (fun cdv A outer s H vs Q E hr h => ?_)
  · obtain ⟨b, signs, m, rfl, _⟩ := h
    rfl
  · obtain ⟨b, signs, m, rfl, hb, s0, s1, hm, k⟩ := h
    have nd := sc__law_drawn_word.nd
    refine ⟨_, PSs.nox (pss_one (ps_ret (pe_join pe_str (pe_lc (own := [("_law_turn", 3)]) rfl nd (pi_range1 (by rfl) T.b_range (pa_cons (pe_call G__law_throw (hr.mono (by decide)) rfl T.g__law_throw F__law_throw.kp b__law_throw .nil pass0 (pa_cons (pv 0) (pa_cons (pe_op op_add (pv 2) pe_int) pa_nil))) pa_nil)) (blkOk_by (own := [("_law_turn", 3)]) (N := ["_law_bag", "_law_signs", "_law_most", "_law_turn"]) (sc := defScope s__law_drawn_word) (by decide +kernel)) (fun _ _ _ _ _ => (pg_name (i := 3) nd rfl (.inl rfl))) (fun _ _ _ _ _ => pts_nil) (fun _ _ _ _ _ => (pe_call G__law_pick (hr.mono (by decide)) rfl T.g__law_pick F__law_pick.kp b__law_pick .nil pass0 (pa_cons (pv 0) (pa_cons (pv 1) pa_nil)))))))), ?_⟩
    have hb0 := hb
    obtain ⟨g, s', c, hb⟩ := hb
    refine ⟨⟨_, rfl⟩, _, rfl, _, rfl, _, _, rfl, rfl, b, g, s', c, (m : Int) + 1, rfl, hb, by omega, by omega, fun r g' c' r0 r1 => ⟨r, rfl, by omega, by omega, fun D nD => ?_⟩⟩
    have kb : Keep (J b) H (upd H b (bagO g' s' c')) := Keep.upd rfl
    have nb : D ≠ b := fun z => by rw [z, upd_same] at nD; cases nD
    refine lc_range (lo := 0) (n := r.toNat) (fun i H' => ∃ zs : List Str, zs.length = i ∧ (∀ z ∈ zs, ∃ c ∈ signs.cps.toList, z = ⟨#[c]⟩) ∧ H' D = some (.lst (zs.map V.str)) ∧ BagAt b H' ∧ Keep (J b) H H')
      ⟨[], rfl, fun z hz => (nomatch hz), upd_same, ⟨g', s', c', by rw [upd_ne nb.symm]; exact upd_same⟩, kb.trans (Keep.new nD)⟩ (fun i H' hi q => ?_) (fun H' q => ?_)
    · obtain ⟨zs, hl, hz, hD, ⟨g2, s2, c2, hb2⟩, kk⟩ := q
      have el : (signs.cps.toList.map fun c => V.str ⟨#[c]⟩).length = signs.length := by simp [Str.length]
      have s2k : signs.length ≤ sizeLine := by rw [sizeLine_eq]; omega
      refine ⟨rfl, _, rfl, _, rfl, b, g2, s2, c2, .str signs, _, rfl, hb2, .inr ⟨signs, rfl, s2k, rfl⟩, fun _ _ => .inr ⟨signs, rfl, s2k, rfl⟩, by omega, by omega, fun y g3 c3 hy => ?_⟩
      obtain ⟨ch, hc, rfl⟩ := List.mem_map.mp hy
      have hD2 : upd H' b (bagO g3 s2 c3) D = some (.lst (zs.map V.str)) := by rw [upd_ne nb]; exact hD
      refine ⟨_, hD2, by rw [List.length_map, sizeLine_eq]; omega, zs ++ [⟨#[ch]⟩], by simp [hl], ?_, by rw [upd_same]; simp, ⟨g3, s2, c3, by rw [upd_ne nb.symm]; exact upd_same⟩, ?_⟩
      · intro z hz2
        rcases List.mem_append.mp hz2 with h | h
        · exact hz z h
        · rw [List.mem_singleton.mp h]; exact ⟨ch, hc, rfl⟩
      · intro a o na ha
        have aD : a ≠ D := fun z => by
          rw [z] at ha
          have := kb _ _ nb ha
          rw [nD] at this
          cases this
        rw [upd_ne aD]
        exact (kk.trans (Keep.upd rfl)) a o na ha
    · obtain ⟨zs, hl, hz, hD, hbag, kk⟩ := q
      refine ⟨"", D, zs, rfl, rfl, .inl (SqL.of hD), ?_, k _ H' kk hbag ?_⟩
      · have e1 : (zs.map (·.length)).sum = zs.length := singles_sum zs fun z h => by
          obtain ⟨c, _, rfl⟩ := hz z h
          rfl
        have e2 : ("" : Str).length = 0 := rfl
        rw [e1, e2]
        omega
      · have e : Txt.join "" zs = Str.join "" zs := by simpa using (PyProof.Rows.join_closes (sep := "") (sep' := "") (ys := zs) rfl)
        rw [e]
        obtain ⟨l1, l2⟩ := singles_join (signs := signs) zs hz
        exact ⟨by omega, l2⟩
end
end K0
-- K1Hlp
set_option maxRecDepth 100000
set_option maxHeartbeats 1000000
namespace FM
open PySem L2
theorem cutV_to (xs : List V) (n : Nat) : cutV xs none (some ((n : Nat) : Int)) = xs.take n := by
  have e2 : HT.sIx xs.length xs.length (some ((n : Nat) : Int)) = min n xs.length := by
    rw [HT.sIx_nat]
  show (xs.drop 0).take (HT.sIx xs.length xs.length (some ((n : Nat) : Int)) - 0) = _
  rw [e2, List.drop_zero, Nat.sub_zero]
  rcases Nat.le_total n xs.length with h | h
  · rw [Nat.min_eq_left h]
  · rw [Nat.min_eq_right h, List.take_of_length_le (Nat.le_refl _), List.take_of_length_le h]
theorem cutV_from (xs : List V) : cutV xs (some 1) none = xs.drop 1 := by
  have e2 : HT.sIx xs.length 0 (some ((1 : Nat) : Int)) = min 1 xs.length := by
    rw [HT.sIx_nat]
  show (xs.drop (HT.sIx xs.length 0 (some ((1 : Nat) : Int)))).take (xs.length - HT.sIx xs.length 0 (some ((1 : Nat) : Int))) = _
  rw [e2]
  cases xs with
  | nil => rfl
  | cons x r => simp
/-- what the law calls a word -/
def lawW (z : Str) : Bool := (sg z).all fun c => decide (97 ≤ c) && decide (c ≤ 122)
theorem Let.law {z : Str} (h : Let z) : lawW z = true := by
  unfold lawW
  rw [List.all_eq_true]
  intro c hc
  obtain ⟨a, b⟩ := h c hc
  rw [decide_eq_true a, decide_eq_true b]
  rfl
theorem law_let {z : Str} (h : lawW z = true) : Let z := fun c hc => by
  unfold lawW at h
  rw [List.all_eq_true] at h
  have := h c hc
  simpa using this
theorem gap_same (x y : Str) : decide (ovL x y = x ∧ ovR x y = y) = apartS x y := by
  rw [Bool.eq_iff_iff, decide_eq_true_eq]
  constructor
  · rintro ⟨h1, h2⟩
    have h := gap_apart x y
    rw [h1, h2] at h
    exact h
  · intro h
    have z : comLen (sg x) (sg y) = 0 := by
      unfold apartS at h
      unfold sg
      revert h
      cases x.cps.toList with
      | nil => intro _; rfl
      | cons c cs =>
        cases y.cps.toList with
        | nil => intro _; rfl
        | cons d ds =>
          intro h
          have ne : ¬ c = d := by simpa using h
          simp [comLen, ne]
    unfold ovL ovR
    rw [z, List.drop_zero, List.drop_zero]
    exact ⟨sg_inj (sg_ofL _), sg_inj (sg_ofL _)⟩
end FM
namespace K0
open PySem L2 FM He
/-- a value, and whether it is a word, told by both -/
def JudW (K : PySem.W.Frag) (H : Hp) (y : V) (b : Bool) : Prop := (∃ z : Str, y = .str z ∧ z.length ≤ 4000 ∧ isWord z = b ∧ lawW z = b) ∨ (NotTy K H y "str" ∧ b = false)
theorem JudW.same {K : PySem.W.Frag} {H H' : Hp} {y : V} {b : Bool} (h : JudW K H y b) (S : Same H H') : JudW K H' y b := h.imp id fun ⟨h, e⟩ => ⟨notTy_same S h, e⟩
theorem JudW.v {K : PySem.W.Frag} {H : Hp} {y : V} {b : Bool} (h : JudW K H y b) : WordV K H y b := h.imp (fun ⟨z, e, l, h, _⟩ => ⟨z, e, by rw [sizeLine_eq]; omega, h⟩) id
theorem jud_w {K : PySem.W.Frag} {H : Hp} {z : Str} (h : W z) : JudW K H (.str z) true := .inl ⟨z, rfl, h.2, h.word, h.1.law⟩
/-- a value, and whether it is a delay, told by both -/
def JudG (K : PySem.W.Frag) (H : Hp) (x : V) (r : Bool) : Prop :=
  (NotTy K H x "tuple" ∧ r = false) ∨ (∃ t xs, x = .ref t ∧ SqT K H t xs ∧ xs.length ≠ 2 ∧ r = false) ∨
  (∃ t y1 y2 b1 b2, x = .ref t ∧ SqT K H t [y1, y2] ∧ JudW K H y1 b1 ∧ JudW K H y2 b2 ∧ r = (b1 && b2 && apartV y1 y2))
theorem JudG.same {K : PySem.W.Frag} {H H' : Hp} {y : V} {b : Bool} (h : JudG K H y b) (S : Same H H') : JudG K H' y b := by
  rcases h with ⟨h, e⟩ | ⟨t, xs, e, h, n, q⟩ | ⟨t, y1, y2, b1, b2, e, h, j1, j2, q⟩
  · exact .inl ⟨notTy_same S h, e⟩
  · exact .inr (.inl ⟨t, xs, e, sqT_same S h, n, q⟩)
  · exact .inr (.inr ⟨t, y1, y2, b1, b2, e, sqT_same S h, j1.same S, j2.same S, q⟩)
theorem JudG.v {K : PySem.W.Frag} {H : Hp} {y : V} {b : Bool} (h : JudG K H y b) : DelayV K H y b := by
  rcases h with h | h | ⟨t, y1, y2, b1, b2, e, h, j1, j2, q⟩
  · exact .inl h
  · exact .inr (.inl h)
  · exact .inr (.inr ⟨t, y1, y2, b1, b2, e, h, j1.v, j2.v, q⟩)
section
variable {P : Program} {w : World} {K : PySem.W.Frag} {mg : Str → Option Value} {base : Heap}
theorem ok_law_common {f : Addr} {fd : FuncData} (F : FnP K "_law_common" s__law_common f fd) (T : TP K mg) : FnOk P w K mg base CX0 1 f fd ["_law_words"] (fun vs H Q _ => ∃ (p : Addr) (ks : List Str), vs = [.ref p] ∧ SqL K H p (ks.map V.str) ∧ ks ≠ [] ∧ AllW ks ∧ ∀ H', Same H H' → Q (.str (comAll ks)) H') := by
  refine F.ok sc__law_common (fun vs H Q E h => ?_) (fun cdv A outer s H vs Q E hr h => ?_)
  · obtain ⟨p, ks, rfl, _⟩ := h
    rfl
  · obtain ⟨p, ks, rfl, hp, ne, hw, k⟩ := h
    have nd := sc__law_common.nd
    obtain ⟨z0, r, rfl⟩ := List.exists_cons_of_ne_nil ne
    refine ⟨_, PSs.nox (pss_cons (ps_set (i := 1) nd rfl (.inl rfl) (pe_ix ix_seq (pv 0) pe_int (fun _ _ => rfl)))
      (pss_cons (ps_for PassesOwn.never rfl (pi_list (pe_slice sl_list (pv 0) (po_some pe_int) po_none)) (pg_name (i := 2) nd rfl (.inl rfl)) (pss_cons (ps_set (i := 3) nd rfl (.inl rfl) pe_int)
      (pss_cons (ps_while PassesOwn.never (PW.pt (pw_and (pt_cmpR op_lt (pv 3) (pe_callB (call_min2 rfl) (by rfl) T.b_min (by decide +kernel) (pa_cons (pe_callB call_len (by rfl) T.b_len (by decide +kernel) (pa_cons (pv 1) pa_nil)) (pa_cons (pe_callB call_len (by rfl) T.b_len (by decide +kernel) (pa_cons (pv 2) pa_nil)) pa_nil))) (nomark _)) (pw_and1 (pt_cmpR op_eq (pe_ix ix_seq (pv 1) (pv 3) (fun _ _ => rfl)) (pe_ix ix_seq (pv 2) (pv 3) (fun _ _ => rfl)) (nomark _))))) (pss_one (ps_set (i := 3) nd rfl (.inl rfl) (pe_op op_add (pv 3) pe_int))))
      (pss_one (ps_set (i := 1) nd rfl (.inl rfl) (pe_slice sl_str (pv 1) po_none (po_some (pv 3))))))))
      (pss_one (ps_ret (pv 1))))), ?_⟩
    refine ⟨_, rfl, .inl ⟨p, _, 0, .str z0, rfl, rfl, hp, atI_nat (j := 0) rfl, ?_⟩⟩
    refine ⟨_, rfl, ⟨_, rfl, p, _, rfl, hp, fun q nq => ?_⟩⟩
    have ec : cutV ((z0 :: r).map V.str) (some 1) none = r.map V.str := by rw [cutV_from]; rfl
    rw [ec]
    have S1 := same_upd (o := .lst (r.map V.str)) nq
    refine ⟨q, rfl, ⟨_, SqL.of upd_same⟩, ?_⟩
    refine for_list (K := K) (xs := r.map V.str) (fun n σ H' => Same H H' ∧ H' q = some (.lst (r.map V.str)) ∧ W ((r.take n).foldl comS z0) ∧ ∃ u w, σ = [some (.ref p), some (.str ((r.take n).foldl comS z0)), u, w])
      ⟨S1, upd_same, hw _ List.mem_cons_self, _, _, rfl⟩ (fun _ _ _ _ h => SqL.of h.2.1) ?_ ?_
    · rintro n v σ H1 hv ⟨S, hq, hz, u, w', rfl⟩
      rw [List.getElem?_map] at hv
      obtain ⟨y, hy, rfl⟩ := Option.map_eq_some_iff.mp hv
      have wy : W y := hw y (List.mem_cons_of_mem _ (List.mem_of_getElem? hy))
      have next : (r.take (n + 1)).foldl comS z0 = comS ((r.take n).foldl comS z0) y := by
        rw [List.take_add_one, hy, List.foldl_append]
        rfl
      rw [next]
      generalize (r.take n).foldl comS z0 = x at hz next ⊢
      have hx2 := hz.sz
      have hy2 := wy.sz
      refine ⟨fun m σ H2 => ∃ j : Nat, σ = [some (.ref p), some (.str x), some (.str y), some (.int (j : Nat))] ∧ H1 = H2 ∧ m + j = min x.length y.length ∧ ∀ i < j, x.cps.toList[i]? = y.cps.toList[i]?,
        ⟨min x.length y.length, 0, rfl, rfl, rfl, fun i hi => absurd hi (Nat.not_lt_zero i)⟩, ?_⟩
      rintro m σ H2 ⟨j, rfl, rfl, hm, he⟩
      refine ⟨_, rfl, _, rfl, _, x.length, rfl, ⟨hx2, rfl⟩, _, rfl, _, y.length, rfl, ⟨hy2, rfl⟩, _, _, rfl, _, _, rfl, rfl, _, rfl, ?_⟩
      have em : (if ((y.length : Nat) : Int) < ((x.length : Nat) : Int) then ((y.length : Nat) : Int) else ((x.length : Nat) : Int)) = ((min x.length y.length : Nat) : Int) := by
        split <;> omega
      have lx : x.cps.toList.length = x.length := by simp [Str.length]
      have ly : y.cps.toList.length = y.length := by simp [Str.length]
      rw [em]
      by_cases hj : j < min x.length y.length
      · have hj2 : ((j : Nat) : Int) < ((min x.length y.length : Nat) : Int) := by omega
        rw [decide_eq_true hj2]
        refine iteT ?_
        have jx : j < x.cps.toList.length := by omega
        have jy : j < y.cps.toList.length := by omega
        have ax := atI_nat (xs := x.cps.toList) (j := j) (v := x.cps.toList[j]) (List.getElem?_eq_getElem jx)
        have ay := atI_nat (xs := y.cps.toList) (j := j) (v := y.cps.toList[j]) (List.getElem?_eq_getElem jy)
        refine ⟨_, rfl, _, rfl, .inr (.inr ⟨x, j, _, rfl, rfl, hx2, ax, _, rfl, _, rfl, .inr (.inr ⟨y, j, _, rfl, rfl, hy2, ay, rfl, _, rfl, ?_⟩)⟩)⟩
        by_cases e : x.cps.toList[j] = y.cps.toList[j]
        · rw [decide_eq_true (congrArg (fun c => V.str ⟨#[c]⟩) e)]
          refine iteT ⟨fun σ H2 => ∃ j2 : Nat, σ = [some (.ref p), some (.str x), some (.str y), some (.int (j2 : Nat))] ∧ H1 = H2 ∧ (m - 1) + j2 = min x.length y.length ∧ ∀ i < j2, x.cps.toList[i]? = y.cps.toList[i]?, fun σ' H' h => ⟨m - 1, by omega, h⟩, ?_⟩
          refine ⟨_, rfl, _, _, rfl, rfl, j + 1, rfl, rfl, by omega, fun i hi => ?_⟩
          rcases Nat.lt_succ_iff_lt_or_eq.mp hi with h | h
          · exact he i h
          · rw [h, List.getElem?_eq_getElem jx, List.getElem?_eq_getElem jy, e]
        · have ne : ¬ (V.str ⟨#[x.cps.toList[j]]⟩ = V.str ⟨#[y.cps.toList[j]]⟩) := fun z => e (by simpa using V.str.inj z)
          rw [decide_eq_false ne]
          refine iteF ⟨_, rfl, _, rfl, _, rfl, x, rfl, hx2, S, hq, hz.comS, some (.str y), some (.int (j : Nat)), ?_⟩
          rw [← comS_cut, comLen_stop he (List.getElem?_eq_getElem jx) (List.getElem?_eq_getElem jy) e]
          rfl
      · have hj2 : ¬ ((j : Nat) : Int) < ((min x.length y.length : Nat) : Int) := by omega
        rw [decide_eq_false hj2]
        refine iteF (iteF ⟨_, rfl, _, rfl, _, rfl, x, rfl, hx2, S, hq, hz.comS, some (.str y), some (.int (j : Nat)), ?_⟩)
        rw [← comS_cut, comLen_end he (by omega)]
        rfl
    · rintro σ H' ⟨S, _, _, u, w', rfl⟩
      refine ⟨_, rfl, ?_⟩
      rw [List.length_map, List.take_length]
      exact k H' S
theorem ok_law_gap_of {f : Addr} {fd : FuncData} (F : FnP K "_law_gap_of" s__law_gap_of f fd) (T : TP K mg) : FnOk P w K mg base CX0 2 f fd ["_law_one", "_law_other"] spLeftOver := by
  obtain ⟨d__law_common, F__law_common⟩ := T.f__law_common
  have G__law_common := ok_law_common (P := P) (w := w) (base := base) F__law_common T
  have b__law_common : Binds K d__law_common ["_law_words"] [] := F__law_common.bindsN fun _ _ _ _ _ _ us hl => match us, hl with | [_], _ => rfl
  refine F.ok sc__law_gap_of (fun vs H Q E h => ?_) (fun cdv A outer s H vs Q E hr h => ?_)
  · obtain ⟨x, y, rfl, _⟩ := h
    rfl
  · obtain ⟨x, y, rfl, wx, wy, k⟩ := h
    have nd := sc__law_gap_of.nd
    refine ⟨_, PSs.nox (pss_cons (ps_set (i := 2) nd rfl (.inl rfl) (pe_callB call_len (by rfl) T.b_len (by decide +kernel) (pa_cons (pe_call G__law_common (hr.mono (by decide)) rfl T.g__law_common F__law_common.kp b__law_common .nil pass0 (pa_cons (pe_lst (pa_cons (pv 0) (pa_cons (pv 1) pa_nil))) pa_nil)) pa_nil)))
      (pss_one (ps_ret (pe_tup (pa_cons (pe_slice sl_str (pv 0) (po_some (pv 2)) po_none) (pa_cons (pe_slice sl_str (pv 1) (po_some (pv 2)) po_none) pa_nil)))))), ?_⟩
    refine ⟨_, rfl, _, rfl, by show 2 ≤ sizeLine; decide, fun q nq => ⟨q, [x, y], rfl, SqL.of upd_same, by simp, ?_, fun H1 S1 => ?_⟩⟩
    · intro z hz
      rcases List.mem_cons.mp hz with rfl | hz
      · exact wx
      · rw [List.mem_singleton.mp hz]
        exact wy
    have wc : W (comS x y) := wx.comS
    have S0 := (same_upd (o := .lst [V.str x, V.str y]) nq).trans S1
    refine ⟨_, (comS x y).length, rfl, ⟨wc.sz, rfl⟩, ?_⟩
    have el : (comS x y).length = comLen (sg x) (sg y) := by
      rw [← sg_len, comS, sg_ofL, List.length_take]
      have := (com_le (sg x) (sg y)).1
      omega
    rw [el]
    refine ⟨_, rfl, ⟨_, rfl, _, rfl, x, rfl, wx.sz, _, rfl, ⟨_, rfl, _, rfl, y, rfl, wy.sz, by show 2 ≤ sizeLine; decide, fun p np => ?_⟩⟩⟩
    rw [ovL_cut, ovR_cut]
    exact k _ p (S0.trans (same_upd np)) (S0.free np) upd_same
theorem ok_law_is_word {f : Addr} {fd : FuncData} (F : FnP K "_law_is_word" s__law_is_word f fd) (T : TP K mg) : FnOk P w K mg base CX0 1 f fd ["_law_value"] (fun vs H Q _ => ∃ (x : V) (b : Bool), vs = [x] ∧ JudW K H x b ∧ ∀ H', Same H H' → Q (.bl b) H') := by
  refine F.ok sc__law_is_word (fun vs H Q E h => ?_) (fun cdv A outer s H vs Q E hr h => ?_)
  · obtain ⟨x, b, rfl, _⟩ := h
    rfl
  · obtain ⟨x, b, rfl, h, k⟩ := h
    have nd := sc__law_is_word.nd
    have hu64 := hr.units
    refine ⟨_, PSs.nox (pss_cons (ps_if (pt_not (pt_val (pe_callB call_isi (by rfl) T.b_isinstance (by decide +kernel) (pa_cons (pv 0) (pa_cons (pe_bltn (v := .ty "str") (by rfl) T.b_str (by decide +kernel) rfl) pa_nil))))) (pss_one (ps_ret pe_bl)) pss_nil)
      (pss_one (ps_ret (pe_cmpR (op_eqNilL hu64) (pe_lc (own := [("_law_sign", 1)]) rfl nd (pi_str (pv 0)) (blkOk_by (own := [("_law_sign", 1)]) (N := ["_law_value", "_law_sign"]) (sc := defScope s__law_is_word) (by decide +kernel)) (fun _ _ _ _ _ => (pg_name (i := 1) nd rfl (.inl rfl))) (fun _ _ _ _ _ => pts_one (pt_not (pt_chain op_leS op_leS pe_str (pv 1) pe_str))) (fun _ _ _ _ _ => (pv 1))) (pe_lst pa_nil) (nomark _))))), ?_⟩
    rcases h with ⟨z, rfl, hl, -, hb⟩ | ⟨⟨t, ht, hk⟩, rfl⟩
    · refine ⟨_, rfl, _, _, _, _, true, rfl, ClsV.ty _, .base (.str z), kit_ty (by decide +kernel), _, rfl, iteF ?_⟩
      have lz : z.length ≤ sizeLine := by rw [sizeLine_eq]; omega
      refine ⟨_, rfl, z, rfl, fun D nD => ?_⟩
      refine lc_it (w := walk_str (z := z)) (Pv := fun j Hc => Same H Hc ∧ Hc D = some (.lst ((((sg z).take j).filter fun c => !(decide (97 ≤ c) && decide (c ≤ 122))).map fun c => V.str (one c)))) ⟨same_upd nD, upd_same⟩ (fun _ _ _ _ => trivial) ?_ ?_
      · rintro j x H1 H2 hj ⟨S, hD⟩ ⟨rfl, ch, hc, rfl⟩
        have hc2 : (sg z)[j]? = some ch := by simpa [sg] using hc
        have step : (sg z).take (j + 1) = (sg z).take j ++ [ch] := by rw [List.take_add_one, hc2]; rfl
        have done : ∀ b : Bool, b = (decide (97 ≤ ch) && decide (ch ≤ 122)) → (if (!b) = true then
            tVar 1 [some (.str z), some (.str ⟨#[ch]⟩)] H2 fun y H4 => ∃ acc, H4 D = some (.lst acc) ∧ acc.length < sizeLine ∧ (Same H (upd H4 D (.lst (acc ++ [y]))) ∧ (upd H4 D (.lst (acc ++ [y]))) D = some (.lst ((((sg z).take (j + 1)).filter fun c => !(decide (97 ≤ c) && decide (c ≤ 122))).map fun c => V.str (one c))))
            else (Same H H2 ∧ H2 D = some (.lst ((((sg z).take (j + 1)).filter fun c => !(decide (97 ≤ c) && decide (c ≤ 122))).map fun c => V.str (one c))))) := fun b eb => by
          rw [step, List.filter_append, List.map_append]
          cases b with
          | true =>
            have ef : ([ch].filter fun c => !(decide (97 ≤ c) && decide (c ≤ 122))) = [] := by
              rw [List.filter_cons, ← eb]
              rfl
            rw [ef]
            exact iteF ⟨S, by simpa using hD⟩
          | false =>
            have ef : ([ch].filter fun c => !(decide (97 ≤ c) && decide (c ≤ 122))) = [ch] := by
              rw [List.filter_cons, ← eb]
              rfl
            rw [ef]
            refine iteT ⟨_, rfl, _, hD, ?_, fun c o hc => ?_, upd_same⟩
            · rw [List.length_map, sizeLine_eq]
              have q := List.length_filter_le (fun c => !(decide (97 ≤ c) && decide (c ≤ 122))) ((sg z).take j)
              rw [List.length_take, sg_len] at q
              omega
            · rw [upd_ne (ne_of_none hc nD)]
              exact S _ _ hc
        have e1 : (!decide ((⟨#[ch]⟩ : Str).cps.toList < ("a" : Str).cps.toList)) = decide (97 ≤ ch) := by
          have ea : ("a" : Str).cps.toList = [97] := by decide +kernel
          rw [ea, Bool.eq_iff_iff]
          simp [List.cons_lt_cons_iff]
        have e2 : (!decide (("z" : Str).cps.toList < (⟨#[ch]⟩ : Str).cps.toList)) = decide (ch ≤ 122) := by
          have ea : ("z" : Str).cps.toList = [122] := by decide +kernel
          rw [ea, Bool.eq_iff_iff]
          simp [List.cons_lt_cons_iff]
        refine ⟨rfl, _, rfl, _, _, rfl, rfl, _, rfl, ?_⟩
        rw [e1]
        cases h1 : decide (97 ≤ ch) with
        | false => exact iteF ⟨_, rfl, done false (by rw [h1]; rfl)⟩
        | true =>
          refine iteT ⟨_, _, rfl, rfl, _, rfl, ?_⟩
          rw [e2]
          exact done _ (by rw [h1]; rfl)
      · rintro H1 ⟨S, hD⟩
        have full : (sg z).take z.cps.size = sg z := List.take_of_length_le (by simp [sg])
        rw [full] at hD
        refine ⟨by decide, fun q nq => ?_⟩
        have S2 := S.trans (same_upd (o := .lst ([] : List V)) nq)
        have hD2 : (upd H1 q (.lst [])) D = some (.lst (((sg z).filter fun c => !(decide (97 ≤ c) && decide (c ≤ 122))).map fun c => V.str (one c))) := by
          rw [upd_ne (ne_of_none hD nq)]
          exact hD
        refine ⟨D, q, _, rfl, rfl, SqL.of hD2, SqL.of upd_same, ?_⟩
        have eb : (((sg z).filter fun c => !(decide (97 ≤ c) && decide (c ≤ 122))).map fun c => V.str (one c)).isEmpty = b := by
          rw [← hb, Bool.eq_iff_iff]
          unfold lawW
          simp only [List.isEmpty_iff, List.map_eq_nil_iff, List.filter_eq_nil_iff, List.all_eq_true, Bool.not_eq_true', Bool.not_eq_false]
        rw [eb]
        exact k _ S2
    · exact ⟨_, rfl, _, _, _, _, false, rfl, ClsV.ty _, ht, hk, _, rfl, iteT (k H (Same.refl H))⟩
end
end K0
-- K1Hl2
set_option maxRecDepth 100000
set_option maxHeartbeats 1000000
namespace K0
open PySem L2 FM He
theorem same_over {H H' : Hp} {p : Addr} {o : HO} (S : Same H H') (n : H p = none) : Same H (upd H' p o) := fun b u h => by
  rw [upd_ne (ne_of_none h n)]
  exact S b u h
theorem same_none {H H' : Hp} {p : Addr} (S : Same H H') (n : H' p = none) : H p = none := by
  cases e : H p with
  | none => rfl
  | some o => rw [S _ _ e] at n; cases n
section
variable {P : Program} {w : World} {K : PySem.W.Frag} {mg : Str → Option Value} {base : Heap}
theorem ok_law_is_gap {f : Addr} {fd : FuncData} (F : FnP K "_law_is_gap" s__law_is_gap f fd) (T : TP K mg) : FnOk P w K mg base CX0 3 f fd ["_law_value"] (fun vs H Q _ => ∃ (x : V) (r : Bool), vs = [x] ∧ JudG K H x r ∧ ∀ H', Same H H' → Q (.bl r) H') := by
  obtain ⟨d__law_gap_of, F__law_gap_of⟩ := T.f__law_gap_of
  have G__law_gap_of := ok_law_gap_of (P := P) (w := w) (base := base) F__law_gap_of T
  have b__law_gap_of : Binds K d__law_gap_of ["_law_one", "_law_other"] [] := F__law_gap_of.bindsN fun _ _ _ _ _ _ us hl => match us, hl with | [_, _], _ => rfl
  obtain ⟨d__law_is_word, F__law_is_word⟩ := T.f__law_is_word
  have G__law_is_word := ok_law_is_word (P := P) (w := w) (base := base) F__law_is_word T
  have b__law_is_word : Binds K d__law_is_word ["_law_value"] [] := F__law_is_word.bindsN fun _ _ _ _ _ _ us hl => match us, hl with | [_], _ => rfl
  refine F.ok sc__law_is_gap (fun vs H Q E h => ?_) (fun cdv A outer s H vs Q E hr h => ?_)
  · obtain ⟨x, r, rfl, _⟩ := h
    rfl
  · obtain ⟨x, r, rfl, h, k⟩ := h
    have nd := sc__law_is_gap.nd
    have hu64 := hr.units
    refine ⟨_, PSs.nox (pss_cons (ps_if (PW.pt (pw_or (pt_not (pt_val (pe_callB call_isi (by rfl) T.b_isinstance (by decide +kernel) (pa_cons (pv 0) (pa_cons (pe_bltn (v := .ty "tuple") (by rfl) T.b_tuple (by decide +kernel) rfl) pa_nil))))) (pw_or1 (pt_cmpR op_ne (pe_callB call_len (by rfl) T.b_len (by decide +kernel) (pa_cons (pv 0) pa_nil)) pe_int (nomark _))))) (pss_one (ps_ret pe_bl)) pss_nil)
      (pss_cons (ps_if (PW.pt (pw_or (pt_not (pt_val (pe_call G__law_is_word (hr.mono (by decide)) rfl T.g__law_is_word F__law_is_word.kp b__law_is_word .nil pass0 (pa_cons (pe_ix ix_seq (pv 0) pe_int (fun _ _ => rfl)) pa_nil)))) (pw_or1 (pt_not (pt_val (pe_call G__law_is_word (hr.mono (by decide)) rfl T.g__law_is_word F__law_is_word.kp b__law_is_word .nil pass0 (pa_cons (pe_ix ix_seq (pv 0) pe_int (fun _ _ => rfl)) pa_nil))))))) (pss_one (ps_ret pe_bl)) pss_nil)
      (pss_one (ps_ret (pe_cmpR (op_eqD hu64) (pe_call G__law_gap_of (hr.mono (by decide)) rfl T.g__law_gap_of F__law_gap_of.kp b__law_gap_of .nil pass0 (pa_cons (pe_ix ix_seq (pv 0) pe_int (fun _ _ => rfl)) (pa_cons (pe_ix ix_seq (pv 0) pe_int (fun _ _ => rfl)) pa_nil))) (pv 0) (nomark _)))))), ?_⟩
    rcases h with ⟨⟨t, ht, hk⟩, rfl⟩ | ⟨t, xs, rfl, ht, hl, rfl⟩ | ⟨t, y1, y2, b1, b2, rfl, ht, j1, j2, rfl⟩
    · exact ⟨_, rfl, _, _, _, _, false, rfl, ClsV.ty _, ht, hk, _, rfl, iteT (iteT (k H (Same.refl H)))⟩
    · refine ⟨_, rfl, _, _, _, _, true, rfl, ClsV.ty _, ty_tup ht, kit_ty (by decide +kernel), _, rfl, iteF ?_⟩
      refine ⟨_, rfl, _, xs.length, rfl, .inr ⟨xs, ht, rfl⟩, rfl, _, rfl, ?_⟩
      have e : (!decide (V.int (xs.length : Int) = V.int 2)) = true := by
        rw [dec_intV, decide_eq_false (by omega : ¬ ((xs.length : Nat) : Int) = 2)]
        rfl
      rw [e]
      exact iteT (k H (Same.refl H))
    · refine ⟨_, rfl, _, _, _, _, true, rfl, ClsV.ty _, ty_tup ht, kit_ty (by decide +kernel), _, rfl, iteF ?_⟩
      refine ⟨_, rfl, _, 2, rfl, .inr ⟨_, ht, rfl⟩, rfl, _, rfl, ?_⟩
      refine iteF ?_
      have at0 : atI ([y1, y2] : List V) 0 = some y1 := rfl
      have at1 : atI ([y1, y2] : List V) 1 = some y2 := rfl
      refine ⟨_, rfl, .inr (.inl ⟨t, _, 0, _, rfl, rfl, ht, at0, y1, b1, rfl, j1, fun H1 S1 => ?_⟩)⟩
      cases b1 with
      | false => exact ⟨_, rfl, iteT (iteT (k H1 S1))⟩
      | true =>
        refine ⟨_, rfl, iteF ?_⟩
        have ht1 := sqT_same S1 ht
        refine ⟨_, rfl, .inr (.inl ⟨t, _, 1, _, rfl, rfl, ht1, at1, y2, b2, rfl, j2.same S1, fun H2 S2 => ?_⟩)⟩
        have S12 := S1.trans S2
        have ht2 := sqT_same S12 ht
        cases b2 with
        | false => exact ⟨_, rfl, iteT (k H2 S12)⟩
        | true =>
          refine ⟨_, rfl, iteF ?_⟩
          obtain ⟨x, rfl, lx, -, wx⟩ : ∃ z : Str, y1 = .str z ∧ z.length ≤ 4000 ∧ isWord z = true ∧ lawW z = true := by
            rcases j1 with h | ⟨_, h⟩
            · exact h
            · cases h
          obtain ⟨y, rfl, ly, -, wy⟩ : ∃ z : Str, y2 = .str z ∧ z.length ≤ 4000 ∧ isWord z = true ∧ lawW z = true := by
            rcases j2 with h | ⟨_, h⟩
            · exact h
            · cases h
          have Wx : W x := ⟨law_let wx, lx⟩
          have Wy : W y := ⟨law_let wy, ly⟩
          refine ⟨_, rfl, .inr (.inl ⟨t, _, 0, _, rfl, rfl, ht2, at0, _, rfl, .inr (.inl ⟨t, _, 1, _, rfl, rfl, ht2, at1, x, y, rfl, Wx, Wy, fun H3 p S3 np hp => ?_⟩)⟩)⟩
          have ht3 := sqT_same S3 ht2
          refine ⟨_, rfl, eq_pr (SqT.of hp) ht3 Wx.ovL.ok Wy.ovR.ok Wx.ok Wy.ok ?_⟩
          have kk := k H3 (S12.trans S3)
          have e : (true && true && apartV (.str x) (.str y)) = decide (ovL x y = x ∧ ovR x y = y) := by rw [gap_same]; rfl
          rw [e] at kk
          exact kk
theorem ok_law_ordered {f : Addr} {fd : FuncData} (F : FnP K "_law_ordered" s__law_ordered f fd) (T : TP K mg) : FnOk P w K mg base CX0 1 f fd ["_law_words"] (fun vs H Q _ => ∃ (a : Addr) (ks : List Str), vs = [.ref a] ∧ SqL K H a (ks.map V.str) ∧ ks.length ≤ 60 ∧ AllW ks ∧
    ∀ ls p H', orderOf ks ls → Same H H' → H' p = some (.tup ((byLen ls).map V.str)) → Q (.ref p) H') := by
  refine F.ok sc__law_ordered (fun vs H Q E h => ?_) (fun cdv A outer s H vs Q E hr h => ?_)
  · obtain ⟨a, ks, rfl, _⟩ := h
    rfl
  · obtain ⟨a, ks, rfl, ha, hl, hz, k⟩ := h
    have nd := sc__law_ordered.nd
    have hu64 := hr.units
    refine ⟨_, PSs.nox (pss_cons (ps_set (i := 1) nd rfl (.inl rfl) (pe_callB (cr_sortPairs hu64) (by rfl) T.b_sorted (by decide +kernel) (pa_cons (pe_lc (own := [("_law_word", 2)]) rfl nd (pi_list (pe_callB (cr_sortSetT rfl) (by rfl) T.b_sorted (by decide +kernel) (pa_cons (pe_callTy (cr_setLst rfl) (by rfl) T.b_set (by decide +kernel) (pa_cons (pv 0) pa_nil)) pa_nil))) (blkOk_by (own := [("_law_word", 2)]) (N := ["_law_words", "_law_some", "_law_word", "_law_size"]) (sc := defScope s__law_ordered) (by decide +kernel)) (fun _ _ _ _ _ => (pg_name (i := 2) nd rfl (.inl rfl))) (fun _ _ _ _ _ => pts_nil) (fun _ _ _ _ _ => (pe_tup (pa_cons (pe_callB (call_len : CallR _ _ (fun xs H Q => ∃ x n, xs = [x] ∧ LenV K x H n ∧ Q (.int n) H)) (by rfl) T.b_len (by decide +kernel) (pa_cons (pv 2) pa_nil)) (pa_cons (pv 2) pa_nil))))) pa_nil)))
      (pss_one (ps_ret (pe_callTy call_tuple_of (by rfl) T.b_tuple (by decide +kernel) (pa_cons (pe_lc (own := [("_law_size", 3), ("_law_word", 2)]) rfl nd (pi_list (pv 1)) (blkOk_by (own := [("_law_size", 3), ("_law_word", 2)]) (N := ["_law_words", "_law_some", "_law_word", "_law_size"]) (sc := defScope s__law_ordered) (by decide +kernel)) (fun _ _ _ _ _ => (pg_tup (by rfl) (pgs_cons (pg_name (i := 3) nd rfl (.inl rfl)) (pgs_cons (pg_name (i := 2) nd rfl (.inl rfl)) pgs_nil)) : PG _ _ (gTup K 2 _))) (fun _ _ _ _ _ => pts_nil) (fun _ _ _ _ _ => (pv 2))) pa_nil))))), ?_⟩
    refine ⟨_, rfl, a, ks, rfl, ha, by omega, fun p n np hn => ?_⟩
    have S1 := same_upd (o := SetT w p (fun j => decide (j ∈ ks)) n) np
    refine ⟨p, _, n, rfl, upd_same, by omega, fun ls p1 hs hd hm hl1 np1 => ?_⟩
    let H2 : Hp := upd (upd H p (SetT w p (fun j => decide (j ∈ ks)) n)) p1 (.lst (ls.map V.str))
    have S2 : Same H H2 := S1.trans (same_upd (o := .lst (ls.map V.str)) np1)
    have hm' : ∀ k, k ∈ ls ↔ k ∈ ks := fun j => by simpa using hm j
    have h1 : H2 p1 = some (.lst (ls.map V.str)) := upd_same
    refine ⟨p1, rfl, ⟨_, SqL.of h1⟩, fun D nD => ?_⟩
    refine lc_list (xs := ls.map V.str) (K := K) (fun i H' => Same H2 H' ∧ ∃ ts : List Addr, ts.length = i ∧ H' D = some (.lst (ts.map V.ref)) ∧ ∀ (j : Nat) (t : Addr) (k : Str), ts[j]? = some t → ls[j]? = some k → H' t = some (.tup [.int (k.length : Nat), .str k]))
      ⟨same_upd nD, [], rfl, upd_same, fun j t k h => by simp at h⟩ (fun i H' _ h => SqL.of (h.1 _ _ h1)) ?_ ?_
    · rintro i x H' hx ⟨S, ts, hts, hD, hT⟩
      rw [List.getElem?_map] at hx
      obtain ⟨y, hy, rfl⟩ := Option.map_eq_some_iff.mp hx
      have wy : W y := hz y ((hm' y).mp (List.mem_of_getElem? hy))
      refine ⟨rfl, ?_⟩
      refine ⟨_, rfl, _, y.length, rfl, ⟨wy.sz, rfl⟩, _, rfl, by show 2 ≤ sizeLine; decide, fun t nt => ?_⟩
      have St := same_upd (o := .tup [.int (y.length : Nat), .str y]) nt
      have il : i < ls.length := (List.getElem?_eq_some_iff.mp hy).1
      refine ⟨ts.map V.ref, St _ _ hD, by rw [List.length_map, hts, sizeLine_eq]; omega, same_over (S.trans St) nD, ts ++ [t], by rw [List.length_append, hts]; rfl, by rw [upd_same, List.map_append]; rfl, ?_⟩
      intro j t' k' h1' h2'
      have tD : t' ≠ D := fun e => by
        subst e
        by_cases hj : j < ts.length
        · rw [List.getElem?_append_left hj] at h1'
          have q := hT j t' k' h1' h2'
          rw [hD] at q
          cases q
        · rw [List.getElem?_append_right (by omega)] at h1'
          have e0 : j - ts.length = 0 := by
            have := (List.getElem?_eq_some_iff.mp h1').1
            have : [t].length = 1 := rfl
            omega
          rw [e0] at h1'
          cases h1'
          rw [hD] at nt
          cases nt
      rw [upd_ne tD]
      by_cases hj : j < ts.length
      · rw [List.getElem?_append_left hj] at h1'
        exact St _ _ (hT j t' k' h1' h2')
      · rw [List.getElem?_append_right (by omega)] at h1'
        have e0 : j = i := by
          have := (List.getElem?_eq_some_iff.mp h1').1
          have : [t].length = 1 := rfl
          omega
        subst e0
        rw [hts, Nat.sub_self] at h1'
        cases h1'
        rw [hy] at h2'
        cases h2'
        exact upd_same
    · rintro H3 ⟨S, ts, hts, hD, hT⟩
      rw [List.length_map] at hts
      let ps : List (V × Str) := (ts.map V.ref).zip ls
      have e1 : ps.map (·.1) = ts.map V.ref := List.map_fst_zip (by rw [List.length_map]; omega)
      have e2 : ps.map (·.2) = ls := List.map_snd_zip (by rw [List.length_map]; omega)
      have lk : ∀ p ∈ ps, ∃ t, p.1 = .ref t ∧ H3 t = some (.tup [.int (p.2.length : Nat), .str p.2]) := fun p hp => by
        obtain ⟨j, hj⟩ := List.mem_iff_getElem?.mp hp
        obtain ⟨h1, h2⟩ := List.getElem?_zip_eq_some.mp hj
        rw [List.getElem?_map] at h1
        obtain ⟨t, ht, e⟩ := Option.map_eq_some_iff.mp h1
        exact ⟨t, e.symm, hT j t _ ht h2⟩
      refine ⟨D, ps, rfl, by rw [e1]; exact SqL.of hD, fun p hp => ?_, ?_, fun q nq => ?_⟩
      · obtain ⟨t, a, b⟩ := lk p hp
        exact ⟨t, a, SqT.of b⟩
      · have : ps.length = ls.length := by rw [← e2, List.length_map]
        omega
      have S4 := (S2.trans S).trans (same_upd (o := .lst ((byPair ps).map (·.1))) nq)
      have h4 : (upd H3 q (.lst ((byPair ps).map (·.1)))) q = some (.lst ((byPair ps).map (·.1))) := upd_same
      have lk4 : ∀ p ∈ byPair ps, ∃ t, p.1 = .ref t ∧ (upd H3 q (.lst ((byPair ps).map (·.1)))) t = some (.tup [.int (p.2.length : Nat), .str p.2]) := fun p hp => by
        obtain ⟨t, a, b⟩ := lk p ((List.mergeSort_perm ps _).mem_iff.mp hp)
        exact ⟨t, a, same_upd nq _ _ b⟩
      generalize upd H3 q (.lst ((byPair ps).map (·.1))) = H4 at S4 h4 lk4 ⊢
      have ml : (byPair ps).length = ls.length := by
        have h : (byPair ps).length = ps.length := List.length_mergeSort ps
        rw [h, ← e2, List.length_map]
      refine ⟨_, rfl, q, rfl, ⟨_, SqL.of h4⟩, fun D2 nD2 => ?_⟩
      refine lc_list (xs := (byPair ps).map (·.1)) (K := K) (fun i H' => Same H4 H' ∧ H' D2 = some (.lst ((((byPair ps).map (·.2)).take i).map V.str))) ⟨same_upd nD2, upd_same⟩ (fun i H' _ h => SqL.of (h.1 _ _ h4)) ?_ ?_
      · rintro i x H' hx ⟨S, hD2⟩
        rw [List.getElem?_map] at hx
        obtain ⟨y, hy, rfl⟩ := Option.map_eq_some_iff.mp hx
        obtain ⟨t, e, ht⟩ := lk4 y (List.mem_of_getElem? hy)
        rw [e]
        refine ⟨t, _, rfl, SqT.of (S _ _ ht), rfl, _, _, rfl, _, _, rfl, rfl, rfl, _, rfl, ?_⟩
        have il : i < (byPair ps).length := (List.getElem?_eq_some_iff.mp hy).1
        refine ⟨_, hD2, ?_, same_over S nD2, ?_⟩
        · rw [List.length_map, List.length_take, sizeLine_eq]
          omega
        · rw [upd_same, List.take_add_one, List.getElem?_map, hy, List.map_append]
          rfl
      · rintro H5 ⟨S, hD2⟩
        rw [List.length_map, List.take_of_length_le (by rw [List.length_map]; omega), pairs_one hs hd e2] at hD2
        refine ⟨D2, _, rfl, .inl ⟨SqL.of hD2, fun p3 np3 => ?_⟩⟩
        exact k ls p3 _ ⟨hs, hd, hm'⟩ ((S4.trans S).trans (same_upd np3)) upd_same
end
end K0
-- K1Hl3
set_option maxRecDepth 100000
set_option maxHeartbeats 1000000
namespace K0
open PySem L2 FM He
theorem exps_mem (cs : List Nat) : ∀ d t, ∀ u ∈ exps cs d t, u.length = t.length + d
  | 0, t, u, h => by
    rw [List.mem_singleton.mp h]
    rfl
  | d + 1, t, u, h => by
    obtain ⟨c, _, hc⟩ := List.mem_flatMap.mp h
    rw [exps_mem cs d _ u hc, app_len, one_len]
    omega
theorem grow_len (cs : List Nat) : ∀ l : List Str, (l.flatMap fun u => cs.map fun c => u ++ one c).length = l.length * cs.length
  | [] => by simp
  | u :: l => by rw [List.flatMap_cons, List.length_append, grow_len cs l, List.length_map, List.length_cons, Nat.succ_mul, Nat.add_comm]
section
variable {P : Program} {w : World} {K : PySem.W.Frag} {mg : Str → Option Value} {base : Heap}
theorem ok_law_all_texts {f : Addr} {fd : FuncData} (F : FnP K "_law_all_texts" s__law_all_texts f fd) (T : TP K mg) : FnOk P w K mg base CX0 1 f fd ["_law_signs", "_law_most"] (fun vs H Q _ => ∃ (z : Str) (n : Nat), vs = [.str z, .int (n : Nat)] ∧ 1 ≤ (sg z).length ∧ (sg z).length ≤ 4 ∧ n ≤ 100 ∧ tl (sg z).length (n + 1) ≤ 1000 ∧
    ∀ q H', Same H H' → H' q = some (.lst ((upto (sg z) (n + 1)).map V.str)) → Q (.ref q) H') := by
  refine F.ok sc__law_all_texts (fun vs H Q E h => ?_) (fun cdv A outer s H vs Q E hr h => ?_)
  · obtain ⟨z, n, rfl, _⟩ := h
    rfl
  · obtain ⟨z, n, rfl, z1, z4, hn, ht, k⟩ := h
    have nd := sc__law_all_texts.nd
    refine ⟨_, PSs.nox (pss_cons (ps_par (i := 2) (j := 3) (by rfl) nd rfl rfl (by decide) rfl rfl (pa_cons (pe_lst (pa_cons pe_str pa_nil)) (pa_cons (pe_lst (pa_cons pe_str pa_nil)) pa_nil)) (by rfl))
      (pss_cons (ps_for PassesOwn.never rfl (pi_range1 (by rfl) T.b_range (pa_cons (pv 1) pa_nil)) (pg_name (i := 4) nd rfl (.inl rfl)) (pss_cons (ps_set (i := 5) nd rfl (.inl rfl) (pe_lst pa_nil))
      (pss_cons (ps_for PassesOwn.never rfl (pi_list (pv 3)) (pg_name (i := 6) nd rfl (.inr rfl)) (pss_one (ps_expr (pe_bm PySem.F.plainAttrs_list PySem.F.slot_list_extend PySem.F.type_list_extend mt_extend (pv 5) (pa_cons (pe_lc (own := [("_law_sign", 7)]) rfl nd (pi_str (pv 0)) (blkOk_by (own := [("_law_sign", 7)]) (N := ["_law_signs", "_law_most", "_law_found", "_law_line", "_law_turn", "_law_more_here", "_law_one", "_law_sign"]) (sc := defScope s__law_all_texts) (by decide +kernel)) (fun _ _ _ _ _ => (pg_name (i := 7) nd rfl (.inl rfl))) (fun _ _ _ _ _ => pts_nil) (fun _ _ _ _ _ => (pe_op op_add_str (pv 6) (pv 7)))) pa_nil)))))
      (pss_cons (ps_set (i := 3) nd rfl (.inl rfl) (pe_callTy call_list_of (by rfl) T.b_list (by decide +kernel) (pa_cons (pv 5) pa_nil)))
      (pss_one (ps_set (i := 2) nd rfl (.inl rfl) (pe_op op_cat (pv 2) (pv 3))))))))
      (pss_one (ps_ret (pv 2))))), ?_⟩
    refine ⟨by decide, fun f0 nf0 => ⟨by decide, fun l0 nl0 => ⟨_, _, rfl, ?_⟩⟩⟩
    have mono : ∀ i, i ≤ n → tl (sg z).length (i + 1) ≤ 1000 := fun i hi => by
      have q := (upto_more (sg z) (by omega : i + 1 ≤ n + 1)).length_le
      rw [upto_len, upto_len] at q
      omega
    refine ⟨_, rfl, n, rfl, by omega, by omega, ?_⟩
    refine for_range (n := n) (fun i σ H' => Same H H' ∧ ∃ (f l : Addr), ∃ a b c d, σ = [some (.str z), some (.int (n : Nat)), some (.ref f), some (.ref l), a, b, c, d] ∧ H' f = some (.lst ((upto (sg z) (i + 1)).map V.str)) ∧ H' l = some (.lst ((exps (sg z) i "").map V.str)))
      ⟨(same_upd nf0).trans (same_upd nl0), f0, l0, _, _, _, _, rfl, ?_, upd_same⟩ ?_ ?_
    · exact (same_upd nl0) _ _ upd_same
    · rintro i σ H1 hi ⟨S, f, l, a, b, c, d, rfl, hf, hl⟩
      refine ⟨by decide, fun m nm => ?_⟩
      have nH := same_none S nm
      refine ⟨_, rfl, l, rfl, ⟨_, SqL.of (same_upd nm _ _ hl)⟩, ?_⟩
      have Sm : Same H1 (upd H1 m (.lst [])) := same_upd nm
      refine for_list (K := K) (xs := (exps (sg z) i "").map V.str) (fun j σ H' => Same H1 H' ∧ H' m = some (.lst ((((exps (sg z) i "").take j).flatMap fun u => (sg z).map fun c => u ++ one c).map V.str)) ∧ ∃ a b c, σ = [some (.str z), some (.int (n : Nat)), some (.ref f), some (.ref l), a, some (.ref m), b, c])
        ⟨Sm, upd_same, _, _, _, rfl⟩ (fun _ _ _ _ h => SqL.of (h.1 _ _ hl)) ?_ ?_
      · rintro j x σ H2 hx ⟨S2, hm, a, b, c, rfl⟩
        rw [List.getElem?_map] at hx
        obtain ⟨u, hu, rfl⟩ := Option.map_eq_some_iff.mp hx
        refine ⟨_, rfl, .inl ⟨rfl, _, SqL.of hm⟩, _, rfl, z, rfl, fun D nD => ?_⟩
        have nD1 := same_none S2 nD
        have lu : u.length ≤ 1000 := by
          rw [exps_mem _ _ _ u (List.mem_of_getElem? hu)]
          show 0 + i ≤ 1000
          omega
        have Dm : m ≠ D := fun e => by
          rw [← e, hm] at nD
          cases nD
        refine lc_it (w := walk_str (z := z)) (Pv := fun t Hc => Same H1 Hc ∧ Hc m = some (.lst ((((exps (sg z) i "").take j).flatMap fun u => (sg z).map fun c => u ++ one c).map V.str)) ∧ Hc D = some (.lst ((((sg z).take t).map fun c => u ++ one c).map V.str)))
          ⟨same_over S2 nD1, by rw [upd_ne Dm]; exact hm, upd_same⟩ (fun _ _ _ _ => trivial) ?_ ?_
        · rintro t x H3 H4 hj ⟨S3, hm3, hD⟩ ⟨rfl, ch, hc, rfl⟩
          have hc2 : (sg z)[t]? = some ch := by simpa [sg] using hc
          have ht4 : t < (sg z).length := (List.getElem?_eq_some_iff.mp hc2).1
          refine ⟨rfl, _, rfl, _, rfl, _, _, rfl, rfl, (by rw [sizeLine_eq]; show u.length + 1 ≤ 16777216; omega), _, hD, ?_, same_over S3 nD1, by rw [upd_ne Dm]; exact hm3, ?_⟩
          · rw [List.length_map, List.length_map, List.length_take, sizeLine_eq]
            omega
          · rw [upd_same, List.take_add_one, hc2, List.map_append, List.map_append]
            rfl
        · rintro H3 ⟨S3, hm3, hD⟩
          rw [List.take_of_length_le (by simp [sg])] at hD
          refine ⟨m, D, _, _, rfl, rfl, hm3, hD, ?_, ?_⟩
          · rw [List.length_map, List.length_map, List.length_map, grow_len, List.length_take, exps_len, sizeLine_eq]
            have q1 : min j ((sg z).length ^ i) * (sg z).length ≤ (sg z).length ^ i * (sg z).length := Nat.mul_le_mul_right _ (Nat.min_le_right _ _)
            have q2 := mono (i + 1) hi
            have q3 : (sg z).length ^ i * (sg z).length = (sg z).length ^ (i + 1) := (Nat.pow_succ ..).symm
            have q4 : tl (sg z).length (i + 1 + 1) = tl (sg z).length (i + 1) + (sg z).length ^ (i + 1) := rfl
            omega
          refine ⟨same_over S3 nm, ?_, _, _, _, rfl⟩
          rw [upd_same, List.take_add_one, hu, List.flatMap_append, List.map_append]
          simp
      · rintro σ H2 ⟨S2, hm, a, b, c, rfl⟩
        rw [List.length_map, List.take_of_length_le (Nat.le_refl _), ← exps_end] at hm
        refine ⟨_, rfl, m, _, rfl, .inl (SqL.of hm), fun l2 nl2 => ?_⟩
        have S3 := S2.trans (same_upd (o := .lst ((exps (sg z) (i + 1) "").map V.str)) nl2)
        refine ⟨_, rfl, _, rfl, f, l2, _, _, rfl, rfl, S3 _ _ hf, upd_same, ?_, fun f2 nf2 => ?_⟩
        · rw [List.length_map, List.length_map, upto_len, exps_len, sizeLine_eq]
          have q2 := mono (i + 1) hi
          have q4 : tl (sg z).length (i + 1 + 1) = tl (sg z).length (i + 1) + (sg z).length ^ (i + 1) := rfl
          omega
        have Sf := same_upd (o := .lst ((upto (sg z) (i + 1)).map V.str ++ (exps (sg z) (i + 1) "").map V.str)) nf2
        refine ⟨(S.trans S3).trans Sf, f2, l2, _, _, _, _, rfl, ?_, Sf _ _ upd_same⟩
        rw [upd_same, ← List.map_append]
        rfl
    · rintro σ H1 ⟨S, f, l, a, b, c, d, rfl, hf, hl⟩
      exact ⟨_, rfl, k f H1 S hf⟩
end
end K0
-- K1Hl4
set_option maxRecDepth 100000
set_option maxHeartbeats 1000000
namespace K0
open PySem L2 FM He
section
variable {X : Cx} {K : PySem.W.Frag} {o e : Expr} {es : List Expr} {to : L2.TE} {t : TA} {apos cpos : Pos}
theorem pe_popAt (hK : X.K = K) (ho : PE X o to) (ha : PA X (e :: es) t) (hbase : attributeBase o "pop" X.env (eval o X.env) = eval o X.env := by rfl)
    (hfew : ((backTo cpos (starEach (e :: es) X.env)).all (fun x => !x.1) && (backToKw cpos (keywordEach [] X.env)).all (fun x => x.1.isSome) && decide ((e :: es).length + ([] : List Keyword).length + (if ([] : List Keyword).isEmpty then 0 else 1) < 30)) = true := by rfl)
    (hline : (apos.endLine == cpos.line) = true := by rfl) (hs : starEach (e :: es) X.env = (false, eval e X.env) :: starEach es X.env := by rfl) (hplain : (backTo cpos (starEach es X.env)).any (·.1) = false := by rfl) :
    PE X (.Call (.Attribute o "pop" apos) (e :: es) [] cpos) (tBM K "list" rPopAt to t) := by
  subst hK
  exact pe_bm PySem.F.plainAttrs_list PySem.F.slot_list_pop PySem.F.type_list_pop mt_popAt ho ha hbase hfew hline hs hplain
end
section
variable {P : Program} {w : World} {K : PySem.W.Frag} {mg : Str → Option Value} {base : Heap}
theorem erase_perm {α : Type} : ∀ {l : List α} {j : Nat} (h : j < l.length), (l[j] :: l.eraseIdx j).Perm l
  | x :: l, 0, _ => List.Perm.refl _
  | x :: l, j + 1, h => by
    have q := erase_perm (l := l) (j := j) (by simpa using h)
    exact (List.Perm.swap _ _ _).trans (q.cons x)
theorem ok_law_shuffled {f : Addr} {fd : FuncData} (F : FnP K "_law_shuffled" s__law_shuffled f fd) (T : TP K mg) : FnOk P w K mg base CX0 2 f fd ["_law_bag", "_law_items"] (fun vs H Q _ => ∃ (b a : Addr) (xs : List V), vs = [.ref b, .ref a] ∧ BagAt b H ∧ SqL K H a xs ∧ xs.length ≤ 100 ∧
    ∀ q H' ys, ys.Perm xs → Keep (J b) H H' → BagAt b H' → H' q = some (.lst ys) → Q (.ref q) H') := by
  obtain ⟨d__law_throw, F__law_throw⟩ := T.f__law_throw
  have G__law_throw := ok_law_throw (P := P) (w := w) (base := base) F__law_throw T
  have b__law_throw : Binds K d__law_throw ["_law_bag", "_law_total"] [] := F__law_throw.bindsN fun _ _ _ _ _ _ us hl => match us, hl with | [_, _], _ => rfl
  refine F.ok sc__law_shuffled (fun vs H Q E h => ?_) (fun cdv A outer s H vs Q E hr h => ?_)
  · obtain ⟨b, a, xs, rfl, _⟩ := h
    rfl
  · obtain ⟨b, a, xs, rfl, hb, ha, hl, k⟩ := h
    have nd := sc__law_shuffled.nd
    refine ⟨_, PSs.nox (pss_cons (ps_set (i := 2) nd rfl (.inr rfl) (pe_callTy call_list_of (by rfl) T.b_list (by decide +kernel) (pa_cons (pv 1) pa_nil)))
      (pss_one (ps_ret (pe_lc (own := [("_law_turn", 3)]) rfl nd (pi_range1 (by rfl) T.b_range (pa_cons (pe_callB call_len (by rfl) T.b_len (by decide +kernel) (pa_cons (pv 1) pa_nil)) pa_nil)) (blkOk_by (own := [("_law_turn", 3)]) (N := ["_law_bag", "_law_items", "_law_rest_here", "_law_turn"]) (sc := defScope s__law_shuffled) (by decide +kernel)) (fun _ _ _ _ _ => (pg_name (i := 3) nd rfl (.inl rfl))) (fun _ _ _ _ _ => pts_nil) (fun _ _ _ _ _ => (pe_popAt (K := K) rfl (pv 2) (pa_cons (pe_call G__law_throw (hr.mono (by decide)) rfl T.g__law_throw F__law_throw.kp b__law_throw .nil pass0 (pa_cons (pv 0) (pa_cons (pe_callB (call_len : CallR _ _ (fun xs H Q => ∃ x n, xs = [x] ∧ LenV K x H n ∧ Q (.int n) H)) (by rfl) T.b_len (by decide +kernel) (pa_cons (pv 2) pa_nil)) pa_nil))) pa_nil))))))), ?_⟩
    refine ⟨_, rfl, a, xs, rfl, .inl ha, fun r nr => ?_⟩
    have rb : r ≠ b := bag_ne hb nr
    have hb1 : BagAt b (upd H r (.lst xs)) := hb.same (same_upd nr)
    refine ⟨_, rfl, _, xs.length, rfl, .inl ⟨xs, same_upd nr |> fun S => sqL_same S ha, rfl⟩, xs.length, rfl, by omega, by omega, fun D nD => ?_⟩
    have Db : D ≠ b := bag_ne hb1 nD
    have Dr : D ≠ r := fun e => by
      rw [e, upd_same] at nD
      cases nD
    have nDH : H D = none := same_none (same_upd nr) nD
    refine lc_range (lo := 0) (n := xs.length) (fun i H' => Keep (J b) H H' ∧ BagAt b H' ∧ ∃ ys zs, H' r = some (.lst zs) ∧ H' D = some (.lst ys) ∧ ys.length = i ∧ (ys ++ zs).Perm xs)
      ⟨(Keep.of (same_upd nr)).put nDH, hb1.same (same_upd nD), [], xs, by rw [upd_ne Dr.symm]; exact upd_same, upd_same, rfl, List.Perm.refl _⟩ ?_ ?_
    · rintro i H1 hi ⟨kp, ⟨g, s', c, hb'⟩, ys, zs, hr', hD, hy, hp⟩
      have lz : zs.length + i = xs.length := by
        have := hp.length_eq
        rw [List.length_append] at this
        omega
      refine ⟨rfl, _, rfl, .inl ⟨rfl, _, SqL.of hr'⟩, ?_⟩
      refine ⟨_, rfl, _, rfl, _, zs.length, rfl, .inl ⟨zs, SqL.of hr', rfl⟩, b, g, s', c, (zs.length : Nat), rfl, hb', by omega, by omega, fun t g' c' t0 t1 => ?_⟩
      obtain ⟨j, rfl⟩ : ∃ j : Nat, t = j := ⟨t.toNat, by omega⟩
      have jl : j < zs.length := by omega
      have hr2 : upd H1 b (bagO g' s' c') r = some (.lst zs) := by rw [upd_ne rb]; exact hr'
      have hD2 : upd H1 b (bagO g' s' c') D = some (.lst ys) := by rw [upd_ne Db]; exact hD
      have kp2 : Keep (J b) H (upd H1 b (bagO g' s' c')) := kp.trans (Keep.upd rfl)
      have hb2 : (upd H1 b (bagO g' s' c')) b = some (bagO g' s' c') := upd_same
      generalize upd H1 b (bagO g' s' c') = H2 at hr2 hD2 kp2 hb2 ⊢
      have ix : seqIndex? ((j : Nat) : Int) zs.length = some j := by
        unfold seqIndex?
        have h0 : ¬ ((j : Nat) : Int) < 0 := by omega
        simp only [h0, if_false]
        rw [if_pos (by simp; omega)]
        rfl
      refine ⟨r, zs, _, j, zs[j], rfl, rfl, hr2, by omega, by omega, ix, List.getElem?_eq_getElem jl, ?_⟩
      refine ⟨ys, by rw [upd_ne Dr]; exact hD2, by rw [hy, sizeLine_eq]; omega, (kp2.put nr).put nDH, ⟨g', s', c', by rw [upd_ne Db.symm, upd_ne rb.symm]; exact hb2⟩, ys ++ [zs[j]], zs.eraseIdx j, by rw [upd_ne Dr.symm]; exact upd_same, upd_same, by rw [List.length_append, hy]; rfl, ?_⟩
      refine List.Perm.trans ?_ hp
      rw [List.append_assoc]
      exact List.Perm.append_left _ (erase_perm jl)
    · rintro H1 ⟨kp, hb', ys, zs, hr', hD, hy, hp⟩
      have z0 : zs = [] := by
        have := hp.length_eq
        rw [List.length_append] at this
        exact List.eq_nil_of_length_eq_zero (by omega)
      rw [z0, List.append_nil] at hp
      exact k D H1 ys hp kp hb' hD
def Sgs : Hp → V → Prop := fun _ y => ∃ s : Str, y = .str s ∧ Let s ∧ 0 < s.length ∧ s.length ≤ 10
def Wds (m : Nat) : Hp → V → Prop := fun _ y => ∃ s : Str, y = .str s ∧ Let s ∧ s.length ≤ m
theorem keep_none {b q : Addr} {H H' : Hp} (k : Keep (J b) H H') (n : H' q = none) (h : q ≠ b) : H q = none := by
  cases e : H q with
  | none => rfl
  | some o => rw [k q o h e] at n; cases n
theorem throw_go {b : Addr} {H : Hp} {n : Int} {Q : VK} {E : XK} (hb : BagAt b H) (n0 : 0 < n) (n1 : n < 1073741824) (k : ∀ (r : Nat) H', (r : Int) < n → Keep (J b) H H' → BagAt b H' → Q (.int (r : Nat)) H') : spThrow [.ref b, .int n] H Q E := by
  obtain ⟨g, s, c, hb⟩ := hb
  refine ⟨b, g, s, c, n, rfl, hb, n0, n1, fun r g' c' r0 r1 => ?_⟩
  obtain ⟨j, rfl⟩ : ∃ j : Nat, r = j := ⟨r.toNat, by omega⟩
  exact k j _ r1 (Keep.upd rfl) ⟨g', s, c', upd_same⟩
theorem throw_vr {j : Nat} {b : Addr} {σ : L2.St} {H : Hp} {n : Int} {Q : VK} (hb : BagAt b H) (h0 : σ[j]? = some (some (.ref b))) (n0 : 0 < n) (n1 : n < 1073741824) (k : ∀ (r : Nat) H', (r : Int) < n → Keep (J b) H H' → BagAt b H' → Q (.int (r : Nat)) H') : tCall spThrow [] E0 (tCons (tVar j) (tCons (tC (.int n)) tNil)) σ H Q :=
  ⟨_, h0, throw_go (E := fun _ _ _ => False) hb n0 n1 k⟩
/-- words as the law draws them -/
def Drawn (m : Nat) (ks : List Str) : Prop := ∀ k ∈ ks, Let k ∧ k.length ≤ m
theorem over_let {signs z : Str} {m : Nat} (h : Over signs m z) (l : Let signs) : Let z ∧ z.length ≤ m := ⟨fun c hc => l c (h.2 c hc), h.1⟩
theorem ok_law_drawn_words {f : Addr} {fd : FuncData} (F : FnP K "_law_drawn_words" s__law_drawn_words f fd) (T : TP K mg) : FnOk P w K mg base CX0 4 f fd ["_law_bag"] (fun vs H Q _ => ∃ b : Addr, vs = [.ref b] ∧ BagAt b H ∧
    ∀ q H' ks, 2 ≤ ks.length → ks.length ≤ 5 → Drawn 160 ks → Keep (J b) H H' → BagAt b H' → H' q = some (.lst (ks.map V.str)) → Q (.ref q) H') := by
  obtain ⟨d__law_pick, F__law_pick⟩ := T.f__law_pick
  have G__law_pick := ok_law_pick (P := P) (w := w) (base := base) F__law_pick T
  have b__law_pick : Binds K d__law_pick ["_law_bag", "_law_items"] [] := F__law_pick.bindsN fun _ _ _ _ _ _ us hl => match us, hl with | [_, _], _ => rfl
  obtain ⟨d__law_drawn_word, F__law_drawn_word⟩ := T.f__law_drawn_word
  have G__law_drawn_word := ok_law_drawn_word (P := P) (w := w) (base := base) F__law_drawn_word T
  have b__law_drawn_word : Binds K d__law_drawn_word ["_law_bag", "_law_signs", "_law_most"] [] := F__law_drawn_word.bindsN fun _ _ _ _ _ _ us hl => match us, hl with | [_, _, _], _ => rfl
  obtain ⟨d__law_throw, F__law_throw⟩ := T.f__law_throw
  have G__law_throw := ok_law_throw (P := P) (w := w) (base := base) F__law_throw T
  have b__law_throw : Binds K d__law_throw ["_law_bag", "_law_total"] [] := F__law_throw.bindsN fun _ _ _ _ _ _ us hl => match us, hl with | [_, _], _ => rfl
  refine F.ok sc__law_drawn_words (fun vs H Q E h => ?_) (fun cdv A outer s H vs Q E hr h => ?_)
  · obtain ⟨b, rfl, _⟩ := h
    rfl
  · obtain ⟨b, rfl, hb, k⟩ := h
    have nd := sc__law_drawn_words.nd
    refine ⟨_, PSs.nox (C8.pss_cut (ps_set (i := 1) nd rfl (.inl rfl) (pe_call G__law_pick (hr.mono (by decide)) rfl T.g__law_pick F__law_pick.kp b__law_pick .nil pass0 (pa_cons (pv 0) (pa_cons (pe_lst (pa_cons pe_str (pa_cons pe_str (pa_cons pe_str (pa_cons pe_str (pa_cons pe_str pa_nil)))))) pa_nil))))
      (C8.pss_cut (ps_set (i := 2) nd rfl (.inl rfl) (pe_lst (pa_cons (pe_call G__law_drawn_word (hr.mono (by decide)) rfl T.g__law_drawn_word F__law_drawn_word.kp b__law_drawn_word .nil pass0 (pa_cons (pv 0) (pa_cons (pv 1) (pa_cons pe_int pa_nil)))) pa_nil)))
      (C8.pss_cut (ps_for PassesOwn.never rfl (pi_range1 (by rfl) T.b_range (pa_cons (pe_op op_add pe_int (pe_call G__law_throw (hr.mono (by decide)) rfl T.g__law_throw F__law_throw.kp b__law_throw .nil pass0 (pa_cons (pv 0) (pa_cons pe_int pa_nil)))) pa_nil)) (pg_name (i := 3) nd rfl (.inl rfl)) (pss_cons (ps_set (i := 4) nd rfl (.inl rfl) (pe_call G__law_pick (hr.mono (by decide)) rfl T.g__law_pick F__law_pick.kp b__law_pick .nil pass0 (pa_cons (pv 0) (pa_cons (pv 2) pa_nil))))
      (pss_cons (ps_set (i := 5) nd rfl (.inl rfl) (pe_op op_repS (pe_slice sl_str (pv 4) po_none (po_some (pe_call G__law_throw (hr.mono (by decide)) rfl T.g__law_throw F__law_throw.kp b__law_throw .nil pass0 (pa_cons (pv 0) (pa_cons (pe_op op_add (pe_callB call_len (by rfl) T.b_len (by decide +kernel) (pa_cons (pv 4) pa_nil)) pe_int) pa_nil))))) (pe_callTy call_intIB (by rfl) T.b_int (by decide +kernel) (pa_cons (pe_cmpR op_gt (pe_call G__law_throw (hr.mono (by decide)) rfl T.g__law_throw F__law_throw.kp b__law_throw .nil pass0 (pa_cons (pv 0) (pa_cons pe_int pa_nil))) pe_int (nomark _)) pa_nil))))
      (pss_one (ps_expr (pe_bm PySem.F.plainAttrs_list PySem.F.slot_list_append PySem.F.type_list_append mt_append (pv 2) (pa_cons (pe_op op_add_str (pv 5) (pe_call G__law_drawn_word (hr.mono (by decide)) rfl T.g__law_drawn_word F__law_drawn_word.kp b__law_drawn_word .nil pass0 (pa_cons (pv 0) (pa_cons (pv 1) (pa_cons pe_int pa_nil))))) pa_nil)))))))
      (C8.pss_cut (ps_if (pt_cmpR op_eq (pe_call G__law_throw (hr.mono (by decide)) rfl T.g__law_throw F__law_throw.kp b__law_throw .nil pass0 (pa_cons (pv 0) (pa_cons pe_int pa_nil))) pe_int (nomark _)) (pss_one (ps_setLc (i := 2) (own := [("_law_one", 4)]) rfl nd rfl rfl (sw_true rfl rfl rfl (by decide +kernel)) (pi_list (pv 2)) (blkOk_by (own := [("_law_one", 4)]) (N := ["_law_bag", "_law_signs", "_law_found", "_law_turn", "_law_one", "_law_front"]) (sc := defScope s__law_drawn_words) (by decide +kernel)) (fun _ _ _ _ _ => (pg_name (i := 4) nd rfl (.inl rfl))) (fun _ _ _ _ _ => pts_nil) (fun _ _ _ _ _ => (pe_op op_add_str (pe_op op_add_str (pv 4) (pe_op op_repS pe_str pe_int)) (pv 4))))) pss_nil)
      (pss_one (ps_ret (pv 2))))))), ?_⟩
    have sgs : ∀ s : Str, (∀ c ∈ sg s, 97 ≤ c ∧ c ≤ 122) → 0 < s.length → s.length ≤ 10 → ∀ Hf, Sgs Hf (.str s) := fun s h1 h2 h3 _ => ⟨s, rfl, h1, h2, h3⟩
    refine ⟨fun σ H' => ∃ s, σ = [some (.ref b), some (.str s), none, none, none, none] ∧ (Let s ∧ 0 < s.length ∧ s.length ≤ 10) ∧ Keep (J b) H H' ∧ BagAt b H', ?_, ?_⟩
    · refine pick_lst (φ := Sgs) hb rfl (es_cons (el_c (sgs _ (by decide +kernel) (by decide) (by decide))) (es_cons (el_c (sgs _ (by decide +kernel) (by decide) (by decide))) (es_cons (el_c (sgs _ (by decide +kernel) (by decide) (by decide))) (es_cons (el_c (sgs _ (by decide +kernel) (by decide) (by decide))) (es_cons (el_c (sgs _ (by decide +kernel) (by decide) (by decide))) es_nil))))) (by decide) (by decide) fun y H' kp hb' a => ?_
      obtain ⟨s, rfl, h⟩ := a.here
      exact ⟨s, rfl, h, kp, hb'⟩
    rintro σ H1 ⟨s, rfl, hs, kp1, hb1⟩
    refine ⟨fun σ H' => ∃ q ks, σ = [some (.ref b), some (.str s), some (.ref q), none, none, none] ∧ ks.length = 1 ∧ Drawn 6 ks ∧ H' q = some (.lst (ks.map V.str)) ∧ q ≠ b ∧ H q = none ∧ Keep (J b) H H' ∧ BagAt b H', ?_, ?_⟩
    · refine ⟨_, rfl, _, rfl, b, s, 6, rfl, hb1, hs.2.1, by have := hs.2.2; omega, by omega, fun z H2 kp2 hb2 ov => ⟨by show 1 ≤ sizeLine; decide, fun p np => ?_⟩⟩
      have pb := bag_ne hb2 np
      refine ⟨p, [z], rfl, rfl, fun y hy => ?_, upd_same, pb, keep_none (kp1.trans kp2) np pb, (kp1.trans kp2).put (keep_none (kp1.trans kp2) np pb), hb2.same (same_upd np)⟩
      rw [List.mem_singleton.mp hy]
      exact over_let ov hs.1
    rintro σ H2 ⟨q, ks, rfl, hk1, hk, hq, qb, qH, kp2, hb2⟩
    refine ⟨fun σ H' => ∃ q ks, ∃ a c d, σ = [some (.ref b), some (.str s), some (.ref q), a, c, d] ∧ 2 ≤ ks.length ∧ ks.length ≤ 5 ∧ Drawn 18 ks ∧ H' q = some (.lst (ks.map V.str)) ∧ q ≠ b ∧ H q = none ∧ Keep (J b) H H' ∧ BagAt b H', ?_, ?_⟩
    · refine throw_vr (n := 4) hb2 rfl (by decide) (by decide) fun r H3 hr3 kp3 hb3 => ⟨_, _, rfl, rfl, 1 + r, rfl, by omega, by omega, ?_⟩
      refine for_range (n := 1 + r) (fun i σ H' => ∃ ks : List Str, ∃ a c d, σ = [some (.ref b), some (.str s), some (.ref q), a, c, d] ∧ ks.length = i + 1 ∧ Drawn (6 + 3 * i) ks ∧ H' q = some (.lst (ks.map V.str)) ∧ Keep (J b) H H' ∧ BagAt b H')
        ⟨ks, _, _, _, rfl, hk1, hk, kp3 _ _ qb hq, kp2.trans kp3, hb3⟩ ?_ ?_
      · rintro i σ H4 hi ⟨ks, a, c, d, rfl, hkl, hkd, hq4, kp4, hb4⟩
        have r4 : r < 4 := by omega
        refine pick_vr (φ := Wds (6 + 3 * i)) hb4 rfl rfl qb hq4 (by rw [List.length_map]; omega) (by rw [List.length_map]; omega) (fun y hy => ?_) fun y H5 kp5 hb5 ay => ?_
        · obtain ⟨z, hz, rfl⟩ := List.mem_map.mp hy
          exact fun Hf _ => ⟨z, rfl, hkd z hz⟩
        obtain ⟨one, rfl, lone, llen⟩ := ay.here
        have osz : one.length ≤ sizeLine := by rw [sizeLine_eq]; omega
        refine ⟨_, rfl, ?_⟩
        obtain ⟨g5, s5, c5, eb5⟩ := hb5
        refine ⟨_, rfl, _, rfl, _, one.length, rfl, ⟨osz, rfl⟩, _, _, rfl, rfl, b, g5, s5, c5, ((one.length : Nat) : Int) + 1, rfl, eb5, by omega, by omega, fun t0 g' c' t1 t2 => ?_⟩
        obtain ⟨t, rfl⟩ : ∃ t : Nat, t0 = t := ⟨t0.toNat, by omega⟩
        have kp6 : Keep (J b) H5 (upd H5 b (bagO g' s5 c')) := Keep.upd rfl
        have hb6 : BagAt b (upd H5 b (bagO g' s5 c')) := ⟨g', s5, c', upd_same⟩
        generalize upd H5 b (bagO g' s5 c') = H6 at kp6 hb6 ⊢
        refine ⟨_, rfl, one, rfl, osz, ?_⟩
        rw [cutS_take one (by omega : t ≤ one.length)]
        have lcut : (ofL ((sg one).take t)).length ≤ one.length := by
          rw [← sg_len, sg_ofL, List.length_take, sg_len]
          omega
        have ecut : Let (ofL ((sg one).take t)) := lone.take t
        refine throw_vr (n := 5) hb6 rfl (by decide) (by decide) fun r5 H7 h7 kp7 hb7 => ⟨_, _, rfl, rfl, .inr ⟨_, rfl, ?_⟩⟩
        obtain ⟨m, hm, em⟩ : ∃ m : Nat, m ≤ 1 ∧ (if decide ((0 : Int) < ((r5 : Nat) : Int)) = true then (1 : Int) else 0) = (m : Nat) := by
          by_cases h0 : (0 : Int) < ((r5 : Nat) : Int)
          · exact ⟨1, Nat.le_refl _, by rw [if_pos (decide_eq_true h0)]; rfl⟩
          · exact ⟨0, Nat.zero_le _, by rw [if_neg (by rw [decide_eq_false h0]; exact Bool.false_ne_true)]; rfl⟩
        refine ⟨ofL ((sg one).take t), m, rfl, congrArg V.int em, by omega, by omega, ?_⟩
        have lfr : (repS (ofL ((sg one).take t)) m).length ≤ one.length := by
          rw [repS_length]
          calc m * (ofL ((sg one).take t)).length ≤ 1 * (ofL ((sg one).take t)).length := Nat.mul_le_mul_right _ hm
            _ ≤ one.length := by omega
        have efr : Let (repS (ofL ((sg one).take t)) m) := ecut.rep m
        generalize repS (ofL ((sg one).take t)) m = front at lfr efr ⊢
        have kp7' : Keep (J b) H4 H7 := (kp5.trans kp6).trans kp7
        have hq7 : H7 q = some (.lst (ks.map V.str)) := kp7' _ _ qb hq4
        refine ⟨_, rfl, .inl ⟨rfl, _, SqL.of hq7⟩, _, rfl, _, rfl, _, rfl, b, s, 3, rfl, hb7, hs.2.1, by have := hs.2.2; omega, by omega, fun z H8 kp8 hb8 ov => ?_⟩
        obtain ⟨lz, zl⟩ := over_let ov hs.1
        have hq8 : H8 q = some (.lst (ks.map V.str)) := kp8 _ _ qb hq7
        refine ⟨_, _, rfl, rfl, by rw [sizeLine_eq]; omega, ?_⟩
        refine ⟨q, _, _, rfl, rfl, hq8, by rw [List.length_map, sizeLine_eq]; omega, ?_⟩
        refine ⟨ks ++ [front ++ z], _, _, _, rfl, by rw [List.length_append, hkl]; rfl, fun y hy => ?_, by rw [upd_same, List.map_append]; rfl, ((kp4.trans kp7').trans kp8).put qH, ⟨_, _, _, by rw [upd_ne qb.symm]; exact hb8.choose_spec.choose_spec.choose_spec⟩⟩
        rcases List.mem_append.mp hy with hy | hy
        · exact ⟨(hkd y hy).1, by have := (hkd y hy).2; omega⟩
        · rw [List.mem_singleton.mp hy]
          exact ⟨efr.app lz, by rw [app_len]; omega⟩
      · rintro σ H4 ⟨ks, a, c, d, rfl, hkl, hkd, hq4, kp4, hb4⟩
        have r4 : r < 4 := by omega
        exact ⟨q, ks, _, _, _, rfl, by omega, by omega, fun z hz => ⟨(hkd z hz).1, by have := (hkd z hz).2; omega⟩, hq4, qb, qH, kp4, hb4⟩
    rintro σ H3 ⟨q, ks, a, c, d, rfl, hk2, hk5, hkd, hq3, qb, qH, kp3, hb3⟩
    refine ⟨fun σ H' => ∃ q ks, ∃ a c d, σ = [some (.ref b), some (.str s), some (.ref q), a, c, d] ∧ 2 ≤ ks.length ∧ ks.length ≤ 5 ∧ Drawn 160 ks ∧ H' q = some (.lst (ks.map V.str)) ∧ Keep (J b) H H' ∧ BagAt b H', ?_, ?_⟩
    · refine throw_vr (n := 6) hb3 rfl (by decide) (by decide) fun r H4 hr4 kp4 hb4 => ⟨rfl, _, rfl, ?_⟩
      have hq4 := kp4 _ _ qb hq3
      by_cases r0 : r = 0
      · subst r0
        refine iteT ?_
        refine ⟨_, rfl, q, rfl, ⟨_, SqL.of hq4⟩, fun D nD => ?_⟩
        have l60 : (repS "ab" 60).length = 120 := by rw [repS_length]; rfl
        have e60 : Let (repS "ab" 60) := Let.rep (show Let "ab" from (by decide +kernel : ∀ c ∈ sg "ab", 97 ≤ c ∧ c ≤ 122)) 60
        refine lc_list (xs := ks.map V.str) (K := K) (fun i H' => Same H4 H' ∧ H' D = some (.lst (((ks.take i).map fun k => (k ++ repS "ab" 60) ++ k).map V.str))) ⟨same_upd nD, upd_same⟩ (fun i H' _ h => SqL.of (h.1 _ _ hq4)) ?_ ?_
        · rintro i x H5 hx ⟨S, hD⟩
          rw [List.getElem?_map] at hx
          obtain ⟨y, hy, rfl⟩ := Option.map_eq_some_iff.mp hx
          have yl := (hkd y (List.mem_of_getElem? hy)).2
          have il : i < ks.length := (List.getElem?_eq_some_iff.mp hy).1
          refine ⟨rfl, ?_⟩
          refine ⟨_, rfl, "ab", 60, rfl, rfl, by decide, by decide, _, _, rfl, rfl, by rw [l60, sizeLine_eq]; omega, _, rfl, _, _, rfl, rfl, by rw [app_len, l60, sizeLine_eq]; omega, ?_⟩
          refine ⟨_, hD, by rw [List.length_map, List.length_map, List.length_take, sizeLine_eq]; omega, same_over S nD, ?_⟩
          rw [upd_same, List.take_add_one, hy, List.map_append, List.map_append]
          rfl
        · rintro H5 ⟨S, hD⟩
          rw [List.length_map, List.take_of_length_le (Nat.le_refl _)] at hD
          refine ⟨D, _, _, _, _, rfl, by rw [List.length_map]; exact hk2, by rw [List.length_map]; exact hk5, fun z hz => ?_, hD, (kp3.trans kp4).trans (Keep.of S), hb4.same S⟩
          obtain ⟨y, hy, rfl⟩ := List.mem_map.mp hz
          have hh := hkd y hy
          exact ⟨(hh.1.app e60).app hh.1, by rw [app_len, app_len, l60]; have := hh.2; omega⟩
      · rw [decide_eq_false (fun e => r0 (by have := V.int.inj e; omega) : ¬ V.int (r : Nat) = V.int 0)]
        exact iteF ⟨q, ks, _, _, _, rfl, hk2, hk5, fun z hz => ⟨(hkd z hz).1, by have := (hkd z hz).2; omega⟩, hq4, kp3.trans kp4, hb4⟩
    rintro σ H4 ⟨q, ks, a, c, d, rfl, hk2, hk5, hkd, hq4, kp4, hb4⟩
    exact ⟨_, rfl, k q H4 ks hk2 hk5 hkd kp4 hb4 hq4⟩
end
end K0
-- K1CR
set_option maxRecDepth 100000
set_option maxHeartbeats 1000000
namespace K0
open PySem L2 FM He
theorem Drawn.all {m : Nat} {ks : List Str} (h : Drawn m ks) (l : m ≤ 4000) : AllW ks := fun k hk => ⟨(h k hk).1, by have := (h k hk).2; omega⟩
theorem ne_str {x y : Str} (h : x = y) : (!decide (V.str x = V.str y)) = false := by rw [h]; simp
theorem eq_strT {x y : Str} (h : x = y) : decide (V.str x = V.str y) = true := by rw [h]; simp
def spRight : Sp := fun vs H Q _ => True
section
variable {P : Program} {w : World} {K : PySem.W.Frag} {mg : Str → Option Value} {base : Heap}
theorem ok_law_common_right {f : Addr} {fd : FuncData} (F : FnP K "_law_common_right" s__law_common_right f fd) (T : TP K mg) : FnOk P w K mg base CX0 4 f fd ["_law_words"] (fun vs H Q _ => ∃ (p : Addr) (ks : List Str), vs = [.ref p] ∧ H p = some (.lst (ks.map V.str)) ∧ 2 ≤ ks.length ∧ ks.length ≤ 5 ∧ Drawn 160 ks ∧ ∀ H', Same H H' → Q (.bl true) H') := by
  obtain ⟨d__law_common, F__law_common⟩ := T.f__law_common
  have G__law_common := ok_law_common (P := P) (w := w) (base := base) F__law_common T
  have b__law_common : Binds K d__law_common ["_law_words"] [] := F__law_common.bindsN fun _ _ _ _ _ _ us hl => match us, hl with | [_], _ => rfl
  obtain ⟨d_common_beginning, F_common_beginning⟩ := T.f_common_beginning
  have G_common_beginning := okr_common_beginning (P := P) (w := w) (base := base) F_common_beginning T
  refine F.ok sc__law_common_right (fun vs H Q E h => ?_) (fun cdv A outer s H vs Q E hr h => ?_)
  · obtain ⟨p, ks, rfl, _⟩ := h
    rfl
  · obtain ⟨p, ks, rfl, hp, h2, h5, hd, k⟩ := h
    have nd := sc__law_common_right.nd
    have hw : AllW ks := hd.all (by omega)
    have ne : ks ≠ [] := fun e => by rw [e] at h2; exact absurd h2 (by decide)
    have sql : ∀ {H'}, Same H H' → SqL K H' p (ks.map V.str) := fun S => SqL.of (S _ _ hp)
    have len : ∀ {H'}, Same H H' → LenV K (.ref p) H' ks.length := fun S => .inl ⟨_, sql S, by rw [List.length_map]⟩
    refine ⟨_, PSs.nox (C8.pss_cut (ps_set (i := 1) nd rfl (.inl rfl) (pe_call G__law_common (hr.mono (by decide)) rfl T.g__law_common F__law_common.kp b__law_common .nil pass0 (pa_cons (pv 0) pa_nil)))
      (C8.pss_cut (ps_if (PW.pt (pw_and (pt_cmpR op_gt (pe_callB call_len (by rfl) T.b_len (by decide +kernel) (pa_cons (pv 0) pa_nil)) pe_int (nomark _)) (pw_and1 (pt_cmpR op_ne (pe_callF G_common_beginning (hr.mono (by decide)) rfl T.g_common_beginning F_common_beginning.kp pass0 (pa_cons (pe_ix ix_seq (pv 0) pe_int (fun _ _ => rfl)) (pa_cons (pe_ix ix_seq (pv 0) pe_int (fun _ _ => rfl)) (pa_cons (pe_ix ix_seq (pv 0) pe_int (fun _ _ => rfl)) pa_nil)))) (pe_call G__law_common (hr.mono (by decide)) rfl T.g__law_common F__law_common.kp b__law_common .nil pass0 (pa_cons (pe_slice sl_list (pv 0) po_none (po_some pe_int)) pa_nil)) (nomark _))))) (pss_one (ps_ret pe_bl)) pss_nil)
      (C8.pss_cut (ps_if (PW.pt (pw_and (pt_cmpR op_eq (pe_callB call_len (by rfl) T.b_len (by decide +kernel) (pa_cons (pv 0) pa_nil)) pe_int (nomark _)) (pw_and1 (pt_cmpR op_ne (pe_callF G_common_beginning (hr.mono (by decide)) rfl T.g_common_beginning F_common_beginning.kp pass0 (pa_cons (pe_ix ix_seq (pv 0) pe_int (fun _ _ => rfl)) (pa_cons (pe_ix ix_seq (pv 0) pe_int (fun _ _ => rfl)) pa_nil))) (pv 1) (nomark _))))) (pss_one (ps_ret pe_bl)) pss_nil)
      (C8.pss_cut (ps_if (PW.pt (pw_and (pt_cmpR op_eq (pe_callB call_len (by rfl) T.b_len (by decide +kernel) (pa_cons (pv 0) pa_nil)) pe_int (nomark _)) (pw_and1 (pt_cmpR op_ne (pe_callF G_common_beginning (hr.mono (by decide)) rfl T.g_common_beginning F_common_beginning.kp pass0 (pa_cons (pe_ix ix_seq (pv 0) pe_int (fun _ _ => rfl)) (pa_cons (pe_ix ix_seq (pv 0) pe_int (fun _ _ => rfl)) (pa_cons (pe_ix ix_seq (pv 0) pe_int (fun _ _ => rfl)) (pa_cons (pe_ix ix_seq (pv 0) pe_int (fun _ _ => rfl)) pa_nil))))) (pv 1) (nomark _))))) (pss_one (ps_ret pe_bl)) pss_nil)
      (C8.pss_cut (ps_if (pt_cmpR op_eq (pe_callB call_len (by rfl) T.b_len (by decide +kernel) (pa_cons (pv 0) pa_nil)) pe_int (nomark _)) (pss_cons (ps_set (i := 2) nd rfl (.inl rfl) (pe_callF G_common_beginning (hr.mono (by decide)) rfl T.g_common_beginning F_common_beginning.kp pass0 (pa_cons (pe_ix ix_seq (pv 0) pe_int (fun _ _ => rfl)) (pa_cons (pe_ix ix_seq (pv 0) pe_int (fun _ _ => rfl)) (pa_cons (pe_ix ix_seq (pv 0) pe_int (fun _ _ => rfl)) (pa_cons (pe_ix ix_seq (pv 0) pe_int (fun _ _ => rfl)) (pa_cons (pe_ix ix_seq (pv 0) pe_int (fun _ _ => rfl)) pa_nil)))))))
      (pss_one (ps_if (pt_cmpR op_ne (pv 2) (pv 1) (nomark _)) (pss_one (ps_ret pe_bl)) pss_nil))) pss_nil)
      (pss_one (ps_ret (pe_and (pe_cmpR op_eq (pe_callF G_common_beginning (hr.mono (by decide)) rfl T.g_common_beginning F_common_beginning.kp pass0 (pa_cons (pe_ix ix_seq (pv 0) pe_int (fun _ _ => rfl)) pa_nil)) (pe_ix ix_seq (pv 0) pe_int (fun _ _ => rfl)) (nomark _)) (pe_one (pe_cmpR op_eq (pe_callF G_common_beginning (hr.mono (by decide)) rfl T.g_common_beginning F_common_beginning.kp pass0 (pa_cons (pe_ix ix_seq (pv 0) pe_int (fun _ _ => rfl)) (pa_cons (pe_ix ix_seq (pv 0) pe_int (fun _ _ => rfl)) (pa_cons pe_str pa_nil)))) pe_str (nomark _))))))))))), ?_⟩
    let M : L2.St → Hp → Prop := fun σ H' => Same H H' ∧ ∃ u, σ = [some (.ref p), some (.str (comAll ks)), u]
    have get : ∀ (i : Nat) (z : Str), ks[i]? = some z → atI (ks.map V.str) ((i : Nat) : Int) = some (.str z) := fun i z hz => atI_nat (by rw [List.getElem?_map, hz]; rfl)
    have same : ∀ {ls : List Str}, ls ≠ [] → (∀ w, w ∈ ls ↔ w ∈ ks) → comAll ls = comAll ks := fun h m => comAll_same h ne m
    have lenI : ∀ (n : Nat) (i : Int), i = ((n : Nat) : Int) → decide (V.int ((ks.length : Nat) : Int) = V.int i) = decide (ks.length = n) := fun n i ei => by
      rw [ei, dec_intV]
      exact decide_eq_decide.mpr Int.ofNat_inj
    refine ⟨M, ⟨_, rfl, p, ks, rfl, SqL.of hp, ne, hw, fun H' S => ⟨S, _, rfl⟩⟩, ?_⟩
    rintro σ H1 ⟨S1, u, rfl⟩
    -- more than two
    refine ⟨M, ?_, ?_⟩
    · refine ⟨_, rfl, _, ks.length, rfl, len S1, _, _, rfl, rfl, _, rfl, ?_⟩
      by_cases h : 2 < ks.length
      · rw [decide_eq_true (by omega : (2 : Int) < ((ks.length : Nat) : Int))]
        refine iteT ?_
        obtain ⟨a, b, c, r, e⟩ : ∃ a b c r, ks = a :: b :: c :: r := by
          match ks, h with
          | a :: b :: c :: r, _ => exact ⟨a, b, c, r, rfl⟩
        have wa := hw a (by rw [e]; simp)
        have wb := hw b (by rw [e]; simp)
        have wc := hw c (by rw [e]; simp)
        refine ⟨_, rfl, .inl ⟨p, _, 2, _, rfl, rfl, sql S1, get 2 c (by rw [e]; rfl), _, rfl, .inl ⟨p, _, 0, _, rfl, rfl, sql S1, get 0 a (by rw [e]; rfl), _, rfl, .inl ⟨p, _, 1, _, rfl, rfl, sql S1, get 1 b (by rw [e]; rfl), [c, a, b], rfl, by simp, by simp, ?_, fun H2 S2 => ?_⟩⟩⟩⟩
        · intro z hz
          simp only [List.mem_cons, List.not_mem_nil, or_false] at hz
          rcases hz with rfl | rfl | rfl <;> assumption
        refine ⟨_, rfl, _, rfl, p, _, rfl, sql (S1.trans S2), fun q nq => ?_⟩
        have ec : cutV (ks.map V.str) none (some 3) = [a, b, c].map V.str := by
          have q := cutV_to (ks.map V.str) 3
          rw [e] at q ⊢
          exact q
        rw [ec]
        refine ⟨q, [a, b, c], rfl, SqL.of upd_same, by simp, ?_, fun H3 S3 => ⟨rfl, _, rfl, ?_⟩⟩
        · intro z hz
          simp only [List.mem_cons, List.not_mem_nil, or_false] at hz
          rcases hz with rfl | rfl | rfl <;> assumption
        rw [ne_str (comAll_same (by simp) (by simp) fun w => by simp only [List.mem_cons, List.not_mem_nil, or_false]; constructor <;> (rintro (h | h | h) <;> simp [h]))]
        exact iteF ⟨((S1.trans S2).trans (same_upd nq)).trans S3, _, rfl⟩
      · rw [decide_eq_false (by omega : ¬ (2 : Int) < ((ks.length : Nat) : Int))]
        exact iteF (iteF ⟨S1, _, rfl⟩)
    rintro σ H1 ⟨S1, u, rfl⟩
    -- two
    refine ⟨M, ?_, ?_⟩
    · refine ⟨_, rfl, _, ks.length, rfl, len S1, rfl, _, rfl, ?_⟩
      rw [lenI 2 2 rfl]
      by_cases h : ks.length = 2
      · rw [decide_eq_true h]
        refine iteT ?_
        obtain ⟨a, b, e⟩ : ∃ a b, ks = [a, b] := by
          match ks, h with
          | [a, b], _ => exact ⟨a, b, rfl⟩
        have wa := hw a (by rw [e]; simp)
        have wb := hw b (by rw [e]; simp)
        refine ⟨_, rfl, .inl ⟨p, _, 1, _, rfl, rfl, sql S1, get 1 b (by rw [e]; rfl), _, rfl, .inl ⟨p, _, 0, _, rfl, rfl, sql S1, get 0 a (by rw [e]; rfl), [b, a], rfl, by simp, by simp, ?_, fun H2 S2 => ⟨_, rfl, rfl, _, rfl, ?_⟩⟩⟩⟩
        · intro z hz
          simp only [List.mem_cons, List.not_mem_nil, or_false] at hz
          rcases hz with rfl | rfl <;> assumption
        rw [ne_str (same (by simp) fun w => by rw [e]; simp only [List.mem_cons, List.not_mem_nil, or_false]; constructor <;> (rintro (h | h) <;> simp [h]))]
        exact iteF ⟨S1.trans S2, _, rfl⟩
      · rw [decide_eq_false h]
        exact iteF (iteF ⟨S1, _, rfl⟩)
    rintro σ H1 ⟨S1, u, rfl⟩
    -- four
    refine ⟨M, ?_, ?_⟩
    · refine ⟨_, rfl, _, ks.length, rfl, len S1, rfl, _, rfl, ?_⟩
      rw [lenI 4 4 rfl]
      by_cases h : ks.length = 4
      · rw [decide_eq_true h]
        refine iteT ?_
        obtain ⟨a, b, c, d, e⟩ : ∃ a b c d, ks = [a, b, c, d] := by
          match ks, h with
          | [a, b, c, d], _ => exact ⟨a, b, c, d, rfl⟩
        have wa := hw a (by rw [e]; simp)
        have wb := hw b (by rw [e]; simp)
        have wc := hw c (by rw [e]; simp)
        have wd := hw d (by rw [e]; simp)
        refine ⟨_, rfl, .inl ⟨p, _, 3, _, rfl, rfl, sql S1, get 3 d (by rw [e]; rfl), _, rfl, .inl ⟨p, _, 1, _, rfl, rfl, sql S1, get 1 b (by rw [e]; rfl), _, rfl, .inl ⟨p, _, 0, _, rfl, rfl, sql S1, get 0 a (by rw [e]; rfl), _, rfl, .inl ⟨p, _, 2, _, rfl, rfl, sql S1, get 2 c (by rw [e]; rfl), [d, b, a, c], rfl, by simp, by simp, ?_, fun H2 S2 => ⟨_, rfl, rfl, _, rfl, ?_⟩⟩⟩⟩⟩⟩
        · intro z hz
          simp only [List.mem_cons, List.not_mem_nil, or_false] at hz
          rcases hz with rfl | rfl | rfl | rfl <;> assumption
        rw [ne_str (same (by simp) fun w => by rw [e]; simp only [List.mem_cons, List.not_mem_nil, or_false]; constructor <;> (rintro (h | h | h | h) <;> simp [h]))]
        exact iteF ⟨S1.trans S2, _, rfl⟩
      · rw [decide_eq_false h]
        exact iteF (iteF ⟨S1, _, rfl⟩)
    rintro σ H1 ⟨S1, u, rfl⟩
    -- five
    refine ⟨M, ?_, ?_⟩
    · refine ⟨_, rfl, _, ks.length, rfl, len S1, rfl, _, rfl, ?_⟩
      rw [lenI 5 5 rfl]
      by_cases h : ks.length = 5
      · rw [decide_eq_true h]
        refine iteT ?_
        obtain ⟨a, b, c, d, f, e⟩ : ∃ a b c d f, ks = [a, b, c, d, f] := by
          match ks, h with
          | [a, b, c, d, f], _ => exact ⟨a, b, c, d, f, rfl⟩
        have wa := hw a (by rw [e]; simp)
        have wb := hw b (by rw [e]; simp)
        have wc := hw c (by rw [e]; simp)
        have wd := hw d (by rw [e]; simp)
        have wf := hw f (by rw [e]; simp)
        refine ⟨_, rfl, .inl ⟨p, _, 4, _, rfl, rfl, sql S1, get 4 f (by rw [e]; rfl), _, rfl, .inl ⟨p, _, 2, _, rfl, rfl, sql S1, get 2 c (by rw [e]; rfl), _, rfl, .inl ⟨p, _, 0, _, rfl, rfl, sql S1, get 0 a (by rw [e]; rfl), _, rfl, .inl ⟨p, _, 3, _, rfl, rfl, sql S1, get 3 d (by rw [e]; rfl), _, rfl, .inl ⟨p, _, 1, _, rfl, rfl, sql S1, get 1 b (by rw [e]; rfl), [f, c, a, d, b], rfl, by simp, by simp, ?_, fun H2 S2 => ⟨_, rfl, _, rfl, rfl, _, rfl, ?_⟩⟩⟩⟩⟩⟩⟩
        · intro z hz
          simp only [List.mem_cons, List.not_mem_nil, or_false] at hz
          rcases hz with rfl | rfl | rfl | rfl | rfl <;> assumption
        rw [ne_str (same (by simp) fun w => by rw [e]; simp only [List.mem_cons, List.not_mem_nil, or_false]; constructor <;> (rintro (h | h | h | h | h) <;> simp [h]))]
        exact iteF ⟨S1.trans S2, _, rfl⟩
      · rw [decide_eq_false h]
        exact iteF ⟨S1, _, rfl⟩
    rintro σ H1 ⟨S1, u, rfl⟩
    obtain ⟨a, r, e⟩ := List.exists_cons_of_ne_nil ne
    have wa := hw a (by rw [e]; simp)
    have ga : atI (ks.map V.str) ((0 : Nat) : Int) = some (.str a) := get 0 a (by rw [e]; rfl)
    refine ⟨_, rfl, .inl ⟨p, _, 0, _, rfl, rfl, sql S1, ga, [a], rfl, by simp, by simp, ?_, fun H2 S2 => ⟨_, rfl, .inl ⟨p, _, 0, _, rfl, rfl, sql (S1.trans S2), ga, rfl, _, rfl, ?_⟩⟩⟩⟩
    · intro z hz
      rw [List.mem_singleton.mp hz]
      exact wa
    rw [eq_strT (show comAll [a] = a from rfl)]
    refine iteT ⟨_, rfl, .inl ⟨p, _, 0, _, rfl, rfl, sql (S1.trans S2), ga, _, rfl, .inl ⟨p, _, 0, _, rfl, rfl, sql (S1.trans S2), ga, [a, a, ""], rfl, by simp, by simp, ?_, fun H3 S3 => ⟨rfl, ?_⟩⟩⟩⟩
    · intro z hz
      simp only [List.mem_cons, List.not_mem_nil, or_false] at hz
      rcases hz with rfl | rfl | rfl
      · exact wa
      · exact wa
      · exact ⟨let_nil, by decide⟩
    rw [eq_strT (comAll_nil (by simp))]
    exact k H3 ((S1.trans S2).trans S3)
end
end K0
-- K1DR
set_option maxRecDepth 100000
set_option maxHeartbeats 1000000
namespace K0
open PySem L2 FM He
def Wd (m : Nat) (z : Str) : Prop := Let z ∧ z.length ≤ m
theorem Wd.w {m : Nat} {z : Str} (h : Wd m z) (l : m ≤ 4000 := by decide) : W z := ⟨h.1, by have := h.2; omega⟩
theorem Wd.app {m n : Nat} {x y : Str} (h : Wd m x) (k : Wd n y) : Wd (m + n) (x ++ y) := ⟨h.1.app k.1, by rw [app_len]; have := h.2; have := k.2; omega⟩
theorem Wd.ovL {m : Nat} {x y : Str} (h : Wd m x) : Wd m (ovL x y) := ⟨h.1.ovL, by have := ovL_len x y; have := h.2; omega⟩
theorem Wd.ovR {m : Nat} {x y : Str} (h : Wd m y) : Wd m (ovR x y) := ⟨h.1.ovR, by have := ovR_len x y; have := h.2; omega⟩
theorem iteFc {c : Bool} {A B : Prop} (e : c = false) (k : B) : if c = true then A else B := by
  rw [e]
  exact iteF k
theorem nil_w : W "" := ⟨let_nil, by decide⟩
theorem ne_ff {a b c d : Str} (h : a = c) (k : b = d) : (!decide (a = c ∧ b = d)) = false := by rw [decide_eq_true ⟨h, k⟩]; rfl
section
variable {P : Program} {w : World} {K : PySem.W.Frag} {mg : Str → Option Value} {base : Heap}
theorem ok_law_delays_right {f : Addr} {fd : FuncData} (F : FnP K "_law_delays_right" s__law_delays_right f fd) (T : TP K mg) : FnOk P w K mg base CX0 5 f fd ["_law_one", "_law_other", "_law_more", "_law_last"] (fun vs H Q _ => ∃ x y m l : Str, vs = [.str x, .str y, .str m, .str l] ∧ Wd 160 x ∧ Wd 160 y ∧ Wd 160 m ∧ Wd 160 l ∧ ∀ H', Same H H' → Q (.bl true) H') := by
  obtain ⟨d__law_gap_of, F__law_gap_of⟩ := T.f__law_gap_of
  have G__law_gap_of := ok_law_gap_of (P := P) (w := w) (base := base) F__law_gap_of T
  have b__law_gap_of : Binds K d__law_gap_of ["_law_one", "_law_other"] [] := F__law_gap_of.bindsN fun _ _ _ _ _ _ us hl => match us, hl with | [_, _], _ => rfl
  obtain ⟨d_led_on, F_led_on⟩ := T.f_led_on
  have G_led_on := ok_led_on (P := P) (w := w) (base := base) F_led_on T
  have b_led_on : Binds K d_led_on ["delay", "word", "other"] [] := F_led_on.bindsN fun _ _ _ _ _ _ us hl => match us, hl with | [_, _, _], _ => rfl
  obtain ⟨d_delay, F_delay⟩ := T.f_delay
  have G_delay := ok_delay (P := P) (w := w) (base := base) F_delay T
  have b_delay : Binds K d_delay ["word", "other"] [] := F_delay.bindsN fun _ _ _ _ _ _ us hl => match us, hl with | [_, _], _ => rfl
  obtain ⟨d_distance, F_distance⟩ := T.f_distance
  have G_distance := ok_distance (P := P) (w := w) (base := base) F_distance T
  have b_distance : Binds K d_distance ["word", "other"] [] := F_distance.bindsN fun _ _ _ _ _ _ us hl => match us, hl with | [_, _], _ => rfl
  obtain ⟨d_ahead_by, F_ahead_by⟩ := T.f_ahead_by
  have G_ahead_by := ok_ahead_by (P := P) (w := w) (base := base) F_ahead_by T
  have b_ahead_by : Binds K d_ahead_by ["delay"] [] := F_ahead_by.bindsN fun _ _ _ _ _ _ us hl => match us, hl with | [_], _ => rfl
  refine F.ok sc__law_delays_right (fun vs H Q E h => ?_) (fun cdv A outer s H vs Q E hr h => ?_)
  · obtain ⟨x, y, m, l, rfl, _⟩ := h
    rfl
  · obtain ⟨x, y, m, l, rfl, hx, hy, hm, hl, k⟩ := h
    have nd := sc__law_delays_right.nd
    have hu64 := hr.units
    refine ⟨_, PSs.nox (C8.pss_cut (ps_set (i := 4) nd rfl (.inl rfl) (pe_call G__law_gap_of (hr.mono (by decide)) rfl T.g__law_gap_of F__law_gap_of.kp b__law_gap_of .nil pass0 (pa_cons (pv 0) (pa_cons (pv 1) pa_nil))))
      (C8.pss_cut (ps_if (PW.pt (pw_or (pt_cmpR (op_neD hu64) (pe_call G_delay (hr.mono (by decide)) rfl T.g_delay F_delay.kp b_delay .nil pass0 (pa_cons (pv 0) (pa_cons (pv 1) pa_nil))) (pv 4) (nomark _)) (pw_or (pt_cmpR (op_neD hu64) (pe_call G_delay (hr.mono (by decide)) rfl T.g_delay F_delay.kp b_delay .nil pass0 (pa_cons (pv 1) (pa_cons (pv 0) pa_nil))) (pe_backT (pv 4)) (nomark _)) (pw_or1 (pt_cmpR (op_neD hu64) (pe_call G_delay (hr.mono (by decide)) rfl T.g_delay F_delay.kp b_delay .nil pass0 (pa_cons (pv 0) (pa_cons (pv 0) pa_nil))) (pe_tup (pa_cons pe_str (pa_cons pe_str pa_nil))) (nomark _)))))) (pss_one (ps_ret pe_bl)) pss_nil)
      (C8.pss_cut (ps_if (PW.pt (pw_or (pt_cmpR op_ne (pe_call G_distance (hr.mono (by decide)) rfl T.g_distance F_distance.kp b_distance .nil pass0 (pa_cons (pv 0) (pa_cons (pv 1) pa_nil))) (pe_op op_add (pe_callB call_len (by rfl) T.b_len (by decide +kernel) (pa_cons (pe_ix ix_seq (pv 4) pe_int (fun _ _ => rfl)) pa_nil)) (pe_callB call_len (by rfl) T.b_len (by decide +kernel) (pa_cons (pe_ix ix_seq (pv 4) pe_int (fun _ _ => rfl)) pa_nil))) (nomark _)) (pw_or1 (pt_cmpR op_ne (pe_call G_ahead_by (hr.mono (by decide)) rfl T.g_ahead_by F_ahead_by.kp b_ahead_by .nil pass0 (pa_cons (pv 4) pa_nil)) (pe_op op_sub (pe_callB call_len (by rfl) T.b_len (by decide +kernel) (pa_cons (pv 0) pa_nil)) (pe_callB call_len (by rfl) T.b_len (by decide +kernel) (pa_cons (pv 1) pa_nil))) (nomark _))))) (pss_one (ps_ret pe_bl)) pss_nil)
      (C8.pss_cut (ps_set (i := 5) nd rfl (.inl rfl) (pe_call G_led_on (hr.mono (by decide)) rfl T.g_led_on F_led_on.kp b_led_on .nil pass0 (pa_cons (pv 4) (pa_cons (pv 2) (pa_cons (pv 3) pa_nil)))))
      (C8.pss_cut (ps_if (PW.pt (pw_or (pt_cmpR (op_neD hu64) (pv 5) (pe_call G__law_gap_of (hr.mono (by decide)) rfl T.g__law_gap_of F__law_gap_of.kp b__law_gap_of .nil pass0 (pa_cons (pe_op op_add_str (pv 0) (pv 2)) (pa_cons (pe_op op_add_str (pv 1) (pv 3)) pa_nil))) (nomark _)) (pw_or1 (pt_cmpR (op_neD hu64) (pv 5) (pe_call G_delay (hr.mono (by decide)) rfl T.g_delay F_delay.kp b_delay .nil pass0 (pa_cons (pe_op op_add_str (pv 0) (pv 2)) (pa_cons (pe_op op_add_str (pv 1) (pv 3)) pa_nil))) (nomark _))))) (pss_one (ps_ret pe_bl)) pss_nil)
      (C8.pss_cut (ps_if (pt_cmpR (op_neD hu64) (pe_call G_led_on (hr.mono (by decide)) rfl T.g_led_on F_led_on.kp b_led_on .nil pass0 (pa_cons (pv 5) (pa_cons (pv 3) (pa_cons (pv 3) pa_nil)))) (pe_call G_delay (hr.mono (by decide)) rfl T.g_delay F_delay.kp b_delay .nil pass0 (pa_cons (pe_op op_add_str (pe_op op_add_str (pv 0) (pv 2)) (pv 3)) (pa_cons (pe_op op_add_str (pe_op op_add_str (pv 1) (pv 3)) (pv 3)) pa_nil))) (nomark _)) (pss_one (ps_ret pe_bl)) pss_nil)
      (C8.pss_cut (ps_if (pt_cmpR (op_neD hu64) (pe_call G_led_on (hr.mono (by decide)) rfl T.g_led_on F_led_on.kp b_led_on .nil pass0 (pa_cons (pv 5) (pa_cons pe_str (pa_cons pe_str pa_nil)))) (pv 5) (nomark _)) (pss_one (ps_ret pe_bl)) pss_nil)
      (pss_one (ps_ret (pe_cmpR (op_eqD hu64) (pe_call G_led_on (hr.mono (by decide)) rfl T.g_led_on F_led_on.kp b_led_on .nil pass0 (pa_cons (pe_tup (pa_cons pe_str (pa_cons pe_str pa_nil))) (pa_cons (pv 0) (pa_cons (pv 1) pa_nil)))) (pv 4) (nomark _))))))))))), ?_⟩
    have wx := hx.w
    have wy := hy.w
    have wm := hm.w
    have wl := hl.w
    let M : L2.St → Hp → Prop := fun σ H' => Same H H' ∧ ∃ g u, σ = [some (.str x), some (.str y), some (.str m), some (.str l), some (.ref g), u] ∧ H' g = some (.tup [.str (ovL x y), .str (ovR x y)])
    refine ⟨M, ⟨_, rfl, _, rfl, x, y, rfl, wx, wy, fun H' p S np hp => ⟨S, p, _, rfl, hp⟩⟩, ?_⟩
    rintro σ H1 ⟨S1, g, u, rfl, hg⟩
    refine ⟨M, ?_, ?_⟩
    · refine ⟨_, rfl, _, rfl, x, y, rfl, wx, wy, fun H2 p S2 np hp => ?_⟩
      refine ⟨_, rfl, ne_pr (SqT.of hp) (SqT.of (S2 _ _ hg)) wx.ovL.ok wy.ovR.ok wx.ovL.ok wy.ovR.ok ⟨_, rfl, ?_⟩⟩
      rw [ne_ff rfl rfl]
      refine iteF ⟨_, rfl, _, rfl, y, x, rfl, wy, wx, fun H3 p3 S3 np3 hp3 => ?_⟩
      have S13 := S2.trans S3
      refine ⟨_, rfl, g, _, rfl, SqT.of (S13 _ _ hg), fun p4 np4 => ?_⟩
      refine ne_pr (c := ovR x y) (d := ovL x y) (SqT.of (same_upd np4 _ _ hp3)) (SqT.of upd_same) wy.ovL.ok wx.ovR.ok wy.ovR.ok wx.ovL.ok ⟨_, rfl, ?_⟩
      rw [ne_ff (ov_swap x y).symm (ov_swap y x)]
      have S14 := S13.trans (same_upd (o := .tup [.str (ovR x y), .str (ovL x y)]) np4)
      refine iteF ⟨_, rfl, _, rfl, x, x, rfl, wx, wx, fun H5 p5 S5 np5 hp5 => ?_⟩
      refine ⟨by decide, fun p6 np6 => ?_⟩
      refine ne_pr (c := "") (d := "") (SqT.of (same_upd np6 _ _ hp5)) (SqT.of upd_same) wx.ovL.ok wx.ovR.ok nil_w.ok nil_w.ok ⟨_, rfl, ?_⟩
      rw [ne_ff (ov_self x).1 (ov_self x).2]
      have S6 := (S14.trans S5).trans (same_upd (o := .tup [.str "", .str ""]) np6)
      exact iteF ⟨S1.trans S6, g, _, rfl, S6 _ _ hg⟩
    rintro σ H1 ⟨S1, g, u, rfl, hg⟩
    have gok : ∀ {g : Addr} {H' : Hp}, H' g = some (.tup [.str (ovL x y), .str (ovR x y)]) → GapOk K H' g (ovL x y) (ovR x y) := fun h => gap_ok wx wy h
    refine ⟨M, ?_, ?_⟩
    · refine ⟨_, rfl, _, rfl, x, y, rfl, wx, wy, fun H2 S2 => ?_⟩
      have h2 := S2 _ _ hg
      refine ⟨_, rfl, .inr (.inl ⟨g, _, 0, _, rfl, rfl, SqT.of h2, rfl, .str (ovL x y), (ovL x y).length, rfl, ⟨wx.ovL.sz, rfl⟩, _, rfl, .inr (.inl ⟨g, _, 1, _, rfl, rfl, SqT.of h2, rfl, .str (ovR x y), (ovR x y).length, rfl, ⟨wy.ovR.sz, rfl⟩, _, _, rfl, rfl, rfl, _, rfl, ?_⟩)⟩)⟩
      have e1 : (!decide (V.int ((dist x y : Nat) : Int) = V.int (((ovL x y).length : Nat) + ((ovR x y).length : Nat)))) = false := by
        rw [dec_intV, decide_eq_true (by unfold dist; omega)]
        rfl
      refine iteFc e1 ?_
      refine ⟨_, rfl, g, _, _, rfl, gok h2, fun H3 S3 => ?_⟩
      refine ⟨_, rfl, .str x, x.length, rfl, ⟨wx.sz, rfl⟩, _, rfl, .str y, y.length, rfl, ⟨wy.sz, rfl⟩, _, _, rfl, rfl, rfl, _, rfl, ?_⟩
      have e2 : (!decide (V.int (((ovL x y).length : Nat) - ((ovR x y).length : Nat)) = V.int ((x.length : Nat) - (y.length : Nat)))) = false := by
        have h1 := ovL_len x y
        have h2 := ovR_len x y
        rw [dec_intV, decide_eq_true (by omega)]
        rfl
      refine iteFc e2 ?_
      exact ⟨(S1.trans S2).trans S3, g, _, rfl, S3 _ _ h2⟩
    rintro σ H1 ⟨S1, g, u, rfl, hg⟩
    -- led on
    let N : L2.St → Hp → Prop := fun σ H' => Same H H' ∧ ∃ g e, σ = [some (.str x), some (.str y), some (.str m), some (.str l), some (.ref g), some (.ref e)] ∧ H' g = some (.tup [.str (ovL x y), .str (ovR x y)]) ∧ H' e = some (.tup [.str (ovL (x ++ m) (y ++ l)), .str (ovR (x ++ m) (y ++ l))])
    have wxm : Wd 320 (x ++ m) := hx.app hm
    have wyl : Wd 320 (y ++ l) := hy.app hl
    have wxml : Wd 480 (x ++ m ++ l) := wxm.app hl
    have wyll : Wd 480 (y ++ l ++ l) := wyl.app hl
    refine ⟨N, ?_, ?_⟩
    · refine ⟨_, rfl, _, rfl, _, rfl, g, _, _, m, l, rfl, gok hg, (hx.ovL.app hm).w, (hy.ovR.app hl).w, wm, wl, fun H2 p S2 np hp => ?_⟩
      rw [led_left, led_right] at hp
      exact ⟨S1.trans S2, g, p, rfl, S2 _ _ hg, hp⟩
    rintro σ H1 ⟨S1, g, e, rfl, hg, he⟩
    refine ⟨N, ?_, ?_⟩
    · refine ⟨_, rfl, _, rfl, _, rfl, _, _, rfl, rfl, by rw [sizeLine_eq]; have := hx.2; have := hm.2; omega, _, rfl, _, rfl, _, _, rfl, rfl, by rw [sizeLine_eq]; have := hy.2; have := hl.2; omega, x ++ m, y ++ l, rfl, wxm.w, wyl.w, fun H2 p S2 np hp => ?_⟩
      refine ne_pr (SqT.of (S2 _ _ he)) (SqT.of hp) wxm.w.ovL.ok wyl.w.ovR.ok wxm.w.ovL.ok wyl.w.ovR.ok ⟨_, rfl, ?_⟩
      rw [ne_ff rfl rfl]
      refine iteF ⟨_, rfl, _, rfl, _, rfl, _, _, rfl, rfl, by rw [sizeLine_eq]; have := hx.2; have := hm.2; omega, _, rfl, _, rfl, _, _, rfl, rfl, by rw [sizeLine_eq]; have := hy.2; have := hl.2; omega, x ++ m, y ++ l, rfl, wxm.w, wyl.w, fun H3 p3 S3 np3 hp3 => ?_⟩
      have S23 := S2.trans S3
      refine ne_pr (SqT.of (S23 _ _ he)) (SqT.of hp3) wxm.w.ovL.ok wyl.w.ovR.ok wxm.w.ovL.ok wyl.w.ovR.ok ⟨_, rfl, ?_⟩
      rw [ne_ff rfl rfl]
      exact iteF ⟨S1.trans S23, g, e, rfl, S23 _ _ hg, S23 _ _ he⟩
    rintro σ H1 ⟨S1, g, e, rfl, hg, he⟩
    have eok : ∀ {e : Addr} {H' : Hp}, H' e = some (.tup [.str (ovL (x ++ m) (y ++ l)), .str (ovR (x ++ m) (y ++ l))]) → GapOk K H' e (ovL (x ++ m) (y ++ l)) (ovR (x ++ m) (y ++ l)) := fun h => gap_ok wxm.w wyl.w h
    refine ⟨N, ?_, ?_⟩
    · refine ⟨_, rfl, _, rfl, _, rfl, e, _, _, l, l, rfl, eok he, (wxm.ovL.app hl).w, (wyl.ovR.app hl).w, wl, wl, fun H2 p S2 np hp => ?_⟩
      rw [led_left, led_right] at hp
      refine ⟨_, rfl, _, rfl, _, _, rfl, rfl, by rw [sizeLine_eq]; have := hx.2; have := hm.2; omega, _, rfl, _, _, rfl, rfl, by rw [sizeLine_eq, app_len]; have := hx.2; have := hm.2; have := hl.2; omega, ?_⟩
      refine ⟨_, rfl, _, rfl, _, _, rfl, rfl, by rw [sizeLine_eq]; have := hy.2; have := hl.2; omega, _, rfl, _, _, rfl, rfl, by rw [sizeLine_eq, app_len]; have := hy.2; have := hl.2; omega, ?_⟩
      refine ⟨x ++ m ++ l, y ++ l ++ l, rfl, wxml.w, wyll.w, fun H3 p3 S3 np3 hp3 => ?_⟩
      refine ne_pr (SqT.of (S3 _ _ hp)) (SqT.of hp3) wxml.w.ovL.ok wyll.w.ovR.ok wxml.w.ovL.ok wyll.w.ovR.ok ⟨_, rfl, ?_⟩
      rw [ne_ff rfl rfl]
      have S23 := S2.trans S3
      exact iteF ⟨S1.trans S23, g, e, rfl, S23 _ _ hg, S23 _ _ he⟩
    rintro σ H1 ⟨S1, g, e, rfl, hg, he⟩
    refine ⟨N, ?_, ?_⟩
    · refine ⟨_, rfl, e, _, _, "", "", rfl, eok he, (wxm.ovL.app (show Wd 0 "" from ⟨let_nil, by decide⟩)).w, (wyl.ovR.app (show Wd 0 "" from ⟨let_nil, by decide⟩)).w, nil_w, nil_w, fun H2 p S2 np hp => ?_⟩
      rw [(led_none (x ++ m) (y ++ l)).1, (led_none (x ++ m) (y ++ l)).2] at hp
      refine ⟨_, rfl, ne_pr (SqT.of hp) (SqT.of (S2 _ _ he)) wxm.w.ovL.ok wyl.w.ovR.ok wxm.w.ovL.ok wyl.w.ovR.ok ⟨_, rfl, ?_⟩⟩
      rw [ne_ff rfl rfl]
      exact iteF ⟨S1.trans S2, g, e, rfl, S2 _ _ hg, S2 _ _ he⟩
    rintro σ H1 ⟨S1, g, e, rfl, hg, he⟩
    refine ⟨by decide, fun t nt => ?_⟩
    have ht : (upd H1 t (.tup [.str "", .str ""])) t = some (.tup [.str "", .str ""]) := upd_same
    have St : Same H1 (upd H1 t (.tup [.str "", .str ""])) := same_upd nt
    refine ⟨_, rfl, _, rfl, t, "", "", x, y, rfl, ⟨SqT.of ht, nil_w, nil_w, rfl⟩, by rw [nil_app]; exact wx, by rw [nil_app]; exact wy, wx, wy, fun H2 p S2 np hp => ?_⟩
    rw [nil_app, nil_app] at hp
    have S12 := St.trans S2
    refine ⟨_, rfl, eq_pr (SqT.of hp) (SqT.of (S12 _ _ hg)) wx.ovL.ok wy.ovR.ok wx.ovL.ok wy.ovR.ok ?_⟩
    rw [decide_eq_true ⟨rfl, rfl⟩]
    exact k H2 (S1.trans S12)
end
end K0
-- K1PL
set_option maxRecDepth 100000
set_option maxHeartbeats 1000000
namespace K0
open PySem L2 FM He
section
variable {P : Program} {w : World} {K : PySem.W.Frag} {mg : Str → Option Value} {base : Heap}
theorem ok_law_places_right {f : Addr} {fd : FuncData} (F : FnP K "_law_places_right" s__law_places_right f fd) (T : TP K mg) : FnOk P w K mg base CX0 4 f fd ["_law_words"] (fun vs H Q _ => ∃ (p : Addr) (ks : List Str), vs = [.ref p] ∧ H p = some (.lst (ks.map V.str)) ∧ ks.length ≤ 5 ∧ Drawn 160 ks ∧ ∀ H', Same H H' → Q (.bl true) H') := by
  obtain ⟨d_distance, F_distance⟩ := T.f_distance
  have G_distance := ok_distance (P := P) (w := w) (base := base) F_distance T
  have b_distance : Binds K d_distance ["word", "other"] [] := F_distance.bindsN fun _ _ _ _ _ _ us hl => match us, hl with | [_, _], _ => rfl
  refine F.ok sc__law_places_right (fun vs H Q E h => ?_) (fun cdv A outer s H vs Q E hr h => ?_)
  · obtain ⟨p, ks, rfl, _⟩ := h
    rfl
  · obtain ⟨p, ks, rfl, hp, h5, hd, k⟩ := h
    have nd := sc__law_places_right.nd
    have hu64 := hr.units
    have hw : AllW ks := hd.all (by omega)
    refine ⟨_, PSs.nox (C8.pss_cut (ps_for PassesOwn.never rfl (pi_list (pv 0)) (pg_name (i := 1) nd rfl (.inr rfl)) (pss_one (ps_for PassesOwn.never rfl (pi_list (pv 0)) (pg_name (i := 2) nd rfl (.inr rfl)) (pss_cons (ps_set (i := 3) nd rfl (.inr rfl) (pe_call G_distance (hr.mono (by decide)) rfl T.g_distance F_distance.kp b_distance .nil pass0 (pa_cons (pv 1) (pa_cons (pv 2) pa_nil))))
      (pss_cons (ps_if (PW.pt (pw_or (pt_cmpR op_ne (pe_cmpR op_eq (pv 3) pe_int (nomark _)) (pe_cmpR op_eq (pv 1) (pv 2) (nomark _)) (nomark _)) (pw_or1 (pt_cmpR op_ne (pv 3) (pe_call G_distance (hr.mono (by decide)) rfl T.g_distance F_distance.kp b_distance .nil pass0 (pa_cons (pv 2) (pa_cons (pv 1) pa_nil))) (nomark _))))) (pss_one (ps_ret pe_bl)) pss_nil)
      (pss_one (ps_if (pt_cmpR (op_neNilL hu64) (pe_lc (own := [("_law_way", 4)]) rfl nd (pi_list (pv 0)) (blkOk_by (own := [("_law_way", 4)]) (N := ["_law_words", "_law_one", "_law_other", "_law_size", "_law_way"]) (sc := defScope s__law_places_right) (by decide +kernel)) (fun _ _ _ _ _ => (pg_name (i := 4) nd rfl (.inl rfl))) (fun _ _ _ _ _ => pts_one (pt_cmpR op_lt (pe_op op_add (pe_call G_distance (hr.mono (by decide)) rfl T.g_distance F_distance.kp b_distance .nil pass0 (pa_cons (pv 1) (pa_cons (pv 4) pa_nil))) (pe_call G_distance (hr.mono (by decide)) rfl T.g_distance F_distance.kp b_distance .nil pass0 (pa_cons (pv 4) (pa_cons (pv 2) pa_nil)))) (pv 3) (nomark _))) (fun _ _ _ _ _ => pe_int)) (pe_lst pa_nil) (nomark _)) (pss_one (ps_ret pe_bl)) pss_nil)))))))
      (pss_one (ps_ret pe_bl))), ?_⟩
    have sql : ∀ {H'}, Same H H' → SqL K H' p (ks.map V.str) := fun S => SqL.of (S _ _ hp)
    refine ⟨fun σ H' => Same H H', ?_, fun σ H' S => k H' S⟩
    refine ⟨_, rfl, p, rfl, ⟨_, SqL.of hp⟩, ?_⟩
    refine for_list (K := K) (xs := ks.map V.str) (fun n σ H' => Same H H' ∧ ∃ a b c d, σ = [some (.ref p), a, b, c, d]) ⟨Same.refl _, _, _, _, _, rfl⟩ (fun _ _ _ _ h => sql h.1) ?_ (fun σ H' h => h.1)
    rintro n v σ H1 hv ⟨S1, a, b, c, d, rfl⟩
    obtain ⟨x, rfl, wx⟩ := hw.get (List.mem_of_getElem? hv)
    refine ⟨_, rfl, p, rfl, ⟨_, sql S1⟩, ?_⟩
    refine for_list (K := K) (xs := ks.map V.str) (fun n σ H' => Same H H' ∧ ∃ b c d, σ = [some (.ref p), some (.str x), b, c, d]) ⟨S1, _, _, _, rfl⟩ (fun _ _ _ _ h => sql h.1) ?_ (fun σ H' h => ⟨h.1, _, _, _, _, h.2.choose_spec.choose_spec.choose_spec⟩)
    rintro n v σ H2 hv2 ⟨S2, b, c, d, rfl⟩
    obtain ⟨y, rfl, wy⟩ := hw.get (List.mem_of_getElem? hv2)
    refine ⟨_, rfl, _, rfl, x, y, rfl, wx, wy, fun H3 S3 => ?_⟩
    refine ⟨_, rfl, rfl, _, rfl, _, rfl, rfl, rfl, _, rfl, ?_⟩
    have e1 : (!decide (V.bl (decide (V.int ((dist x y : Nat) : Int) = V.int 0)) = V.bl (decide (V.str x = V.str y)))) = false := by
      have q : decide (V.int ((dist x y : Nat) : Int) = V.int 0) = decide (V.str x = V.str y) := by
        rw [dec_intV, dec_strV]
        refine decide_eq_decide.mpr ?_
        have z := dist_zero x y
        exact ⟨fun h => z.mp (by omega), fun h => by have := z.mpr h; omega⟩
      rw [q]
      simp
    refine iteFc e1 ?_
    refine ⟨_, rfl, _, rfl, _, rfl, y, x, rfl, wy, wx, fun H4 S4 => ⟨rfl, _, rfl, ?_⟩⟩
    have e2 : (!decide (V.int ((dist x y : Nat) : Int) = V.int ((dist y x : Nat) : Int))) = false := by rw [dist_comm]; simp
    refine iteFc e2 ?_
    have S04 := (S2.trans S3).trans S4
    refine ⟨_, rfl, p, rfl, ⟨_, sql S04⟩, fun D nD => ?_⟩
    refine lc_list (xs := ks.map V.str) (K := K) (fun i H' => Same H4 H' ∧ H' D = some (.lst [])) ⟨same_upd nD, upd_same⟩ (fun i H' _ h => sql (S04.trans h.1)) ?_ ?_
    · rintro i v H5 hv5 ⟨S5, hD⟩
      obtain ⟨z, rfl, wz⟩ := hw.get (List.mem_of_getElem? hv5)
      refine ⟨rfl, ?_⟩
      refine ⟨_, rfl, _, rfl, x, z, rfl, wx, wz, fun H6 S6 => ?_⟩
      refine ⟨_, rfl, _, rfl, z, y, rfl, wz, wy, fun H7 S7 => ⟨_, _, rfl, rfl, _, rfl, _, _, rfl, rfl, _, rfl, ?_⟩⟩
      rw [decide_eq_false (by have := dist_tri x z y; omega)]
      exact iteF ⟨(S5.trans S6).trans S7, S7 _ _ (S6 _ _ hD)⟩
    · rintro H5 ⟨S5, hD⟩
      refine ⟨by decide, fun q nq => ?_⟩
      refine ⟨D, q, _, rfl, rfl, SqL.of (same_upd nq _ _ hD), SqL.of upd_same, _, rfl, ?_⟩
      exact iteF ⟨(S04.trans S5).trans (same_upd nq), _, _, _, rfl⟩
end
end K0
-- K1JR
set_option maxRecDepth 100000
set_option maxHeartbeats 1000000
namespace FM
open PySem PySem.Spec PyProof.Rows L2
def repB (b : Bool) : Str := if b then "True" else "False"
theorem call_reprB {X : Cx} : CallR X (.builtin "repr") (fun xs H Q => ∃ b : Bool, xs = [.bl b] ∧ Q (.str (repB b)) H) := by
  intro pins s σ H xs us Q I r h
  obtain ⟨b, rfl, q⟩ := h
  obtain ⟨u, rfl, r1⟩ := vals1 r
  cases r1
  exact PySem.P.repr_of_bool ⟨.str (repB b), H, I.tok _, ⟨_, rfl⟩, q⟩
end FM
namespace K0
open PySem L2 FM He
def JW (K : PySem.W.Frag) : Hp → V → Prop := fun H y => ∃ r, JudW K H y r
def JG (K : PySem.W.Frag) : Hp → V → Prop := fun H y => ∃ r, JudG K H y r
def Odd (K : PySem.W.Frag) : Hp → V → Prop := fun H y => JW K H y ∧ JG K H y
section
variable {K : PySem.W.Frag} {H : Hp}
theorem odd_nst {y : V} (h : Nst K H y) : Odd K H y := ⟨⟨false, .inr ⟨h.1, rfl⟩⟩, ⟨false, .inl ⟨h.2, rfl⟩⟩⟩
theorem odd_str {z : Str} (l : z.length ≤ 4000 := by decide) (h1 : isWord z = lawW z := by decide +kernel) : Odd K H (.str z) := ⟨⟨_, .inl ⟨z, rfl, l, h1, rfl⟩⟩, ⟨false, .inl ⟨not_tup_str, rfl⟩⟩⟩
theorem odd_tup {p : Addr} {xs : List V} (e : H p = some (.tup xs)) (l : xs.length ≠ 2) : Odd K H (.ref p) := ⟨⟨false, .inr ⟨not_str_tup e, rfl⟩⟩, ⟨false, .inr (.inl ⟨p, xs, rfl, SqT.of e, l, rfl⟩)⟩⟩
theorem jg_pair {p : Addr} {x y : V} (e : H p = some (.tup [x, y])) (hx : JW K H x) (hy : JW K H y) : JG K H (.ref p) := by
  obtain ⟨a, ha⟩ := hx
  obtain ⟨b, hb⟩ := hy
  exact ⟨_, .inr (.inr ⟨p, x, y, a, b, rfl, SqT.of e, ha, hb, rfl⟩)⟩
theorem allP_len : ∀ {φs : List (Hp → V → Prop)} {xs : List V}, AllP φs H xs → xs.length = φs.length
  | [], [], _ => rfl
  | [], _ :: _, h => h.elim
  | _ :: _, [], h => h.elim
  | _ :: φs, _ :: xs, h => by rw [List.length_cons, List.length_cons, allP_len h.2]
end
/-- a pair of words -/
def PairAt (H : Hp) (y : V) : Prop := ∃ (t : Addr) (x z : Str), y = .ref t ∧ H t = some (.tup [.str x, .str z]) ∧ W x ∧ W z
theorem PairAt.keep {b : Addr} {H H' : Hp} {y : V} (h : PairAt H y) (hb : BagAt b H) (k : Keep (J b) H H') : PairAt H' y := by
  obtain ⟨t, x, z, rfl, ht, wx, wz⟩ := h
  obtain ⟨g, s, c, e⟩ := hb
  exact ⟨t, x, z, rfl, k t _ (fun q => by rw [show t = b from q, e] at ht; cases ht) ht, wx, wz⟩
theorem PairAt.put {D : Addr} {H : Hp} {ys zs : List V} {y : V} (h : PairAt H y) (hD : H D = some (.lst ys)) : PairAt (upd H D (.lst zs)) y := by
  obtain ⟨t, x, z, rfl, ht, wx, wz⟩ := h
  exact ⟨t, x, z, rfl, by rw [upd_ne (fun q => by rw [q, hD] at ht; cases ht)]; exact ht, wx, wz⟩
theorem PairAt.al {K : PySem.W.Frag} {b : Addr} {H : Hp} {y : V} (h : PairAt H y) (hb : BagAt b H) : AL b (JG K) H y := fun Hf zf => by
  obtain ⟨t, x, z, rfl, ht, wx, wz⟩ := h
  obtain ⟨g, s, c, e⟩ := hb
  exact jg_pair (zf t _ (fun q => by rw [q, e] at ht; cases ht) (fun _ => by simp) ht) ⟨true, jud_w wx⟩ ⟨true, jud_w wz⟩
section
variable {K : PySem.W.Frag} {b p : Addr} {H : Hp} {σ : L2.St} {xs : List V} {Q : VK}
theorem pick_mem {i j : Nat} (hb : BagAt b H) (h0 : σ[j]? = some (some (.ref b))) (hi : σ[i]? = some (some (.ref p))) (hp : p ≠ b) (e : H p = some (.lst xs)) (x0 : 0 < xs.length) (x1 : xs.length < 1000)
    (k : ∀ y H', y ∈ xs → Keep (J b) H H' → BagAt b H' → Q y H') : tCall (spPick K) [] E0 (tCons (tVar j) (tCons (tVar i) tNil)) σ H Q := by
  obtain ⟨g, s, d, eb⟩ := hb
  have st : ∀ g' c', ItemsOf K (upd H b (bagO g' s c')) (.ref p) xs := fun g' c' => .inl ⟨p, rfl, .inl (SqL.of (by rw [upd_ne hp]; exact e))⟩
  exact ⟨_, h0, _, hi, b, g, s, d, .ref p, xs, rfl, eb, .inl ⟨p, rfl, .inl (SqL.of e)⟩, st, x0, by omega, fun y g' c' hy => k y _ hy (Keep.upd rfl) ⟨g', s, c', upd_same⟩⟩
theorem list_ne {t : Addr} {ps : List V} (h : BagAt b H) (e : H t = some (.lst ps)) (l : ps.length ≠ 3) : t ≠ b := fun q => by
  obtain ⟨g, s, c, hb⟩ := h
  rw [q, hb] at e
  cases e
  exact l rfl
theorem bag_upd {D : Addr} {o : HO} (h : BagAt b H) (n : D ≠ b) : BagAt b (upd H D o) := by
  obtain ⟨g, s, c, e⟩ := h
  exact ⟨g, s, c, by rw [upd_ne n.symm]; exact e⟩
end
section
variable {P : Program} {w : World} {K : PySem.W.Frag} {mg : Str → Option Value} {base : Heap}
theorem ok_law_judged_right {f : Addr} {fd : FuncData} (F : FnP K "_law_judged_right" s__law_judged_right f fd) (T : TP K mg) : FnOk P w K mg base CX0 4 f fd ["_law_bag", "_law_words"] (fun vs H Q _ => ∃ (b p : Addr) (ks : List Str), vs = [.ref b, .ref p] ∧ BagAt b H ∧ p ≠ b ∧ H p = some (.lst (ks.map V.str)) ∧ 1 ≤ ks.length ∧ ks.length ≤ 5 ∧ Drawn 160 ks ∧ ∀ H', Keep (J b) H H' → BagAt b H' → Q (.bl true) H') := by
  obtain ⟨d__law_is_word, F__law_is_word⟩ := T.f__law_is_word
  have G__law_is_word := ok_law_is_word (P := P) (w := w) (base := base) F__law_is_word T
  have b__law_is_word : Binds K d__law_is_word ["_law_value"] [] := F__law_is_word.bindsN fun _ _ _ _ _ _ us hl => match us, hl with | [_], _ => rfl
  obtain ⟨d__law_pick, F__law_pick⟩ := T.f__law_pick
  have G__law_pick := ok_law_pick (P := P) (w := w) (base := base) F__law_pick T
  have b__law_pick : Binds K d__law_pick ["_law_bag", "_law_items"] [] := F__law_pick.bindsN fun _ _ _ _ _ _ us hl => match us, hl with | [_, _], _ => rfl
  obtain ⟨d_is_word, F_is_word⟩ := T.f_is_word
  have G_is_word := ok_is_word (P := P) (w := w) (base := base) F_is_word T
  have b_is_word : Binds K d_is_word ["value"] [] := F_is_word.bindsN fun _ _ _ _ _ _ us hl => match us, hl with | [_], _ => rfl
  obtain ⟨d_is_text, F_is_text⟩ := T.f_is_text
  have G_is_text := ok_is_text (P := P) (w := w) (base := base) F_is_text T
  have b_is_text : Binds K d_is_text ["value"] [] := F_is_text.bindsN fun _ _ _ _ _ _ us hl => match us, hl with | [_], _ => rfl
  obtain ⟨d_is_delay, F_is_delay⟩ := T.f_is_delay
  have G_is_delay := ok_is_delay (P := P) (w := w) (base := base) F_is_delay T
  have b_is_delay : Binds K d_is_delay ["value"] [] := F_is_delay.bindsN fun _ _ _ _ _ _ us hl => match us, hl with | [_], _ => rfl
  obtain ⟨d__law_is_gap, F__law_is_gap⟩ := T.f__law_is_gap
  have G__law_is_gap := ok_law_is_gap (P := P) (w := w) (base := base) F__law_is_gap T
  have b__law_is_gap : Binds K d__law_is_gap ["_law_value"] [] := F__law_is_gap.bindsN fun _ _ _ _ _ _ us hl => match us, hl with | [_], _ => rfl
  refine F.ok sc__law_judged_right (fun vs H Q E h => ?_) (fun cdv A outer s H vs Q E hr h => ?_)
  · obtain ⟨b, p, ks, rfl, _⟩ := h
    rfl
  · obtain ⟨b, p, ks, rfl, hb, pb, hp, h1, h5, hd, k⟩ := h
    have nd := sc__law_judged_right.nd
    have hu64 := hr.units
    have hw : AllW ks := hd.all (by omega)
    refine ⟨_, PSs.nox (C8.pss_cut (ps_set (i := 2) nd rfl (.inr rfl) (pe_lst (pa_cons pe_non (pa_cons pe_int (pa_cons pe_bl (pa_cons (pe_lst pa_nil) (pa_cons (pe_tup pa_nil) (pa_cons pe_dnewK (pa_cons pe_str (pa_cons pe_str (pa_cons pe_str (pa_cons pe_str (pa_cons pe_str (pa_cons pe_str (pa_cons (pe_lst (pa_cons pe_str pa_nil)) (pa_cons (pe_tup (pa_cons pe_str pa_nil)) (pa_cons (pe_tup (pa_cons pe_str (pa_cons pe_str (pa_cons pe_str pa_nil)))) pa_nil)))))))))))))))))
      (C8.pss_cut (ps_for PassesOwn.never rfl (pi_list (pe_op op_cat (pe_op op_cat (pv 1) (pe_lc (own := [("_law_turn", 4)]) rfl nd (pi_range1 (by rfl) T.b_range (pa_cons pe_int pa_nil)) (blkOk_by (own := [("_law_turn", 4)]) (N := ["_law_bag", "_law_words", "_law_some", "_law_value", "_law_turn", "_law_due", "_law_pairs"]) (sc := defScope s__law_judged_right) (by decide +kernel)) (fun _ _ _ _ _ => (pg_name (i := 4) nd rfl (.inl rfl))) (fun _ _ _ _ _ => pts_nil) (fun _ _ _ _ _ => (pe_call G__law_pick (hr.mono (by decide)) rfl T.g__law_pick F__law_pick.kp b__law_pick .nil pass0 (pa_cons (pv 0) (pa_cons (pv 2) pa_nil)))))) (pe_lst (pa_cons (pe_op op_repS pe_str pe_int) (pa_cons (pe_op op_repS pe_str pe_int) (pa_cons pe_str (pa_cons (pe_op op_repS pe_str pe_int) pa_nil))))))) (pg_name (i := 3) nd rfl (.inl rfl)) (pss_cons (ps_set (i := 5) nd rfl (.inl rfl) (pe_call G__law_is_word (hr.mono (by decide)) rfl T.g__law_is_word F__law_is_word.kp b__law_is_word .nil pass0 (pa_cons (pv 3) pa_nil)))
      (pss_one (ps_if (PW.pt (pw_or (pt_cmpR op_ne (pe_callB call_reprB (by rfl) T.b_repr (by decide +kernel) (pa_cons (pe_call G_is_word (hr.mono (by decide)) rfl T.g_is_word F_is_word.kp b_is_word .nil pass0 (pa_cons (pv 3) pa_nil)) pa_nil)) (pe_callB call_reprB (by rfl) T.b_repr (by decide +kernel) (pa_cons (pv 5) pa_nil)) (nomark _)) (pw_or1 (pt_cmpR op_ne (pe_callB call_reprB (by rfl) T.b_repr (by decide +kernel) (pa_cons (pe_call G_is_text (hr.mono (by decide)) rfl T.g_is_text F_is_text.kp b_is_text .nil pass0 (pa_cons (pv 3) pa_nil)) pa_nil)) (pe_callB call_reprB (by rfl) T.b_repr (by decide +kernel) (pa_cons (pe_and (pv 5) (pe_one (pe_cmpR op_le (pe_callB call_len (by rfl) T.b_len (by decide +kernel) (pa_cons (pv 3) pa_nil)) pe_int (nomark _)))) pa_nil)) (nomark _))))) (pss_one (ps_ret pe_bl)) pss_nil))))
      (C8.pss_cut (ps_setLc (i := 6) (own := [("_law_turn", 4)]) rfl nd rfl rfl (sw_true rfl rfl rfl (by decide +kernel)) (pi_range1 (by rfl) T.b_range (pa_cons pe_int pa_nil)) (blkOk_by (own := [("_law_turn", 4)]) (N := ["_law_bag", "_law_words", "_law_some", "_law_value", "_law_turn", "_law_due", "_law_pairs"]) (sc := defScope s__law_judged_right) (by decide +kernel)) (fun _ _ _ _ _ => (pg_name (i := 4) nd rfl (.inl rfl))) (fun _ _ _ _ _ => pts_nil) (fun _ _ _ _ _ => (pe_tup (pa_cons (pe_call G__law_pick (hr.mono (by decide)) rfl T.g__law_pick F__law_pick.kp b__law_pick .nil pass0 (pa_cons (pv 0) (pa_cons (pv 1) pa_nil))) (pa_cons (pe_call G__law_pick (hr.mono (by decide)) rfl T.g__law_pick F__law_pick.kp b__law_pick .nil pass0 (pa_cons (pv 0) (pa_cons (pv 1) pa_nil))) pa_nil)))))
      (C8.pss_cut (ps_set (i := 6) nd rfl (.inl rfl) (pe_op op_cat (pv 6) (pe_lst (pa_cons (pe_callTy call_list_of (by rfl) T.b_list (by decide +kernel) (pa_cons (pe_ix ix_seq (pv 6) pe_int (fun _ _ => rfl)) pa_nil)) (pa_cons (pe_op op_catT (pe_ix ix_seq (pv 6) pe_int (fun _ _ => rfl)) (pe_tup (pa_cons pe_str pa_nil))) (pa_cons (pe_tup (pa_cons (pe_ix ix_seq (pv 1) pe_int (fun _ _ => rfl)) pa_nil)) (pa_cons (pe_tup (pa_cons pe_str (pa_cons pe_str pa_nil))) (pa_cons (pe_tup (pa_cons pe_str (pa_cons pe_str pa_nil))) (pa_cons (pe_tup (pa_cons pe_str (pa_cons pe_str pa_nil))) (pa_cons (pe_tup (pa_cons pe_str (pa_cons pe_str pa_nil))) pa_nil))))))))))
      (C8.pss_cut (ps_set (i := 6) nd rfl (.inl rfl) (pe_op op_cat (pv 6) (pe_lst (pa_cons (pe_tup (pa_cons pe_str (pa_cons (pe_call G__law_pick (hr.mono (by decide)) rfl T.g__law_pick F__law_pick.kp b__law_pick .nil pass0 (pa_cons (pv 0) (pa_cons (pv 2) pa_nil))) pa_nil))) (pa_cons (pe_tup (pa_cons (pe_call G__law_pick (hr.mono (by decide)) rfl T.g__law_pick F__law_pick.kp b__law_pick .nil pass0 (pa_cons (pv 0) (pa_cons (pv 2) pa_nil))) (pa_cons pe_str pa_nil))) (pa_cons (pe_call G__law_pick (hr.mono (by decide)) rfl T.g__law_pick F__law_pick.kp b__law_pick .nil pass0 (pa_cons (pv 0) (pa_cons (pv 2) pa_nil))) (pa_cons (pe_ix ix_seq (pv 1) pe_int (fun _ _ => rfl)) pa_nil)))))))
      (pss_one (ps_ret (pe_cmpR (op_eqNilL hu64) (pe_lc (own := [("_law_value", 3)]) rfl nd (pi_list (pv 6)) (blkOk_by (own := [("_law_value", 3)]) (N := ["_law_bag", "_law_words", "_law_some", "_law_value", "_law_turn", "_law_due", "_law_pairs"]) (sc := defScope s__law_judged_right) (by decide +kernel)) (fun _ _ _ _ _ => (pg_name (i := 3) nd rfl (.inl rfl))) (fun _ _ _ _ _ => pts_one (pt_cmpR op_ne (pe_callB call_reprB (by rfl) T.b_repr (by decide +kernel) (pa_cons (pe_call G_is_delay (hr.mono (by decide)) rfl T.g_is_delay F_is_delay.kp b_is_delay .nil pass0 (pa_cons (pv 3) pa_nil)) pa_nil)) (pe_callB call_reprB (by rfl) T.b_repr (by decide +kernel) (pa_cons (pe_call G__law_is_gap (hr.mono (by decide)) rfl T.g__law_is_gap F__law_is_gap.kp b__law_is_gap .nil pass0 (pa_cons (pv 3) pa_nil)) pa_nil)) (nomark _))) (fun _ _ _ _ _ => (pv 3))) (pe_lst pa_nil) (nomark _))))))))), ?_⟩
    let st : Hp → Addr → List V → Prop := fun H' q vs => Keep (J b) H H' ∧ BagAt b H' ∧ H' q = some (.lst vs) ∧ q ≠ b ∧ vs.length = 15 ∧ ∀ y ∈ vs, AL b (Odd K) H' y
    refine ⟨fun σ H' => ∃ q vs, σ = [some (.ref b), some (.ref p), some (.ref q), none, none, none, none] ∧ st H' q vs, ?_, ?_⟩
    · refine asg_es (b := b) (φ := Odd K) (c := 15) ?_ (by decide) fun q vs H' S hq nq hl hv => ⟨q, vs, rfl, Keep.of S, hb.same S, hq, bag_ne hb nq, hl, hv⟩
      have o3 : ∀ {φs : List (Hp → V → Prop)} {ts : L2.TA} {σ : L2.St}, φs.length ≠ 2 → φs.length ≤ 10 → EltsL b φs H σ ts → EltA b (Odd K) H σ (tTup ts) := fun hn hz h => el_tup hb h hz fun H p xs e ap => odd_tup e (by rw [allP_len ap]; exact hn)
      have sA : ∀ {z : Str} {σ : L2.St}, EltA b (fun _ v => v = .str z) H σ (tC (.str z)) := el_c fun _ => rfl
      refine es_cons (el_c fun H => odd_nst nst_non) (es_cons (el_c fun H => odd_nst nst_int) (es_cons (el_c fun H => odd_nst nst_bl) ?_))
      refine es_cons (el_lst hb elL_nil (by decide) fun H p xs e _ => odd_nst (nst_lst e)) (es_cons (o3 (by decide) (by decide) elL_nil) (es_cons (el_dnew hb fun H p e => odd_nst (nst_dK e)) ?_))
      refine es_cons (el_c fun H => odd_str) (es_cons (el_c fun H => odd_str) (es_cons (el_c fun H => odd_str) (es_cons (el_c fun H => odd_str) (es_cons (el_c fun H => odd_str) (es_cons (el_c fun H => odd_str) ?_)))))
      refine es_cons (el_lst hb (elL_cons sA elL_nil) (by decide) fun H p xs e _ => odd_nst (nst_lst e)) (es_cons (o3 (by decide) (by decide) (elL_cons sA elL_nil)) (es_cons (o3 (by decide) (by decide) (elL_cons sA (elL_cons sA (elL_cons sA elL_nil)))) es_nil))
    rintro σ H1 ⟨q, vs, rfl, kp1, hb1, hq1, qb, vl, hv⟩
    have keep1 : ∀ {H'}, Keep (J b) H1 H' → BagAt b H' → st H' q vs := fun k hb => ⟨kp1.trans k, hb, k _ _ qb hq1, qb, vl, fun y hy => (hv y hy).far (KeepN.keep k)⟩
    refine ⟨fun σ H' => ∃ a c d, σ = [some (.ref b), some (.ref p), some (.ref q), a, c, d, none] ∧ st H' q vs, ?_, ?_⟩
    · have hp1 : H1 p = some (.lst (ks.map V.str)) := kp1 _ _ pb hp
      refine ⟨_, rfl, 4, rfl, by decide, by decide, fun D nD => ?_⟩
      have Db := bag_ne hb1 nD
      refine lc_range (lo := 0) (n := 4) (fun i H' => Keep (J b) H1 H' ∧ BagAt b H' ∧ ∃ ys, H' D = some (.lst ys) ∧ ys.length = i ∧ ∀ y ∈ ys, y ∈ vs)
        ⟨Keep.of (same_upd nD), hb1.same (same_upd nD), [], upd_same, rfl, fun y hy => nomatch hy⟩ ?_ ?_
      · rintro i H2 hi ⟨kp2, hb2, ys, hD, hy, ho⟩
        refine ⟨rfl, ?_⟩
        refine pick_mem hb2 rfl rfl qb (kp2 _ _ qb hq1) (by omega) (by omega) fun y H3 my kp3 hb3 => ?_
        refine ⟨ys, kp3 _ _ Db hD, by rw [hy, sizeLine_eq]; omega, (kp2.trans kp3).put nD, bag_upd hb3 Db, ys ++ [y], upd_same, by rw [List.length_append, hy]; rfl, fun u hu => ?_⟩
        rcases List.mem_append.mp hu with hu | hu
        · exact ho u hu
        · rw [List.mem_singleton.mp hu]
          exact my
      · rintro H2 ⟨kp2, hb2, ys, hD, hy, ho⟩
        have hp2 := kp2 _ _ pb hp1
        refine ⟨p, D, _, _, rfl, rfl, hp2, hD, by rw [List.length_map, hy, sizeLine_eq]; omega, fun r nr => ?_⟩
        have Sr := same_upd (o := .lst (ks.map V.str ++ ys)) nr
        refine ⟨"a", 60, rfl, rfl, by decide, by decide, "a", 61, rfl, rfl, by decide, by decide, "zz", 200, rfl, rfl, by decide, by decide, by show 4 ≤ sizeLine; decide, fun t nt => ?_⟩
        have St := same_upd (o := .lst [V.str (repS "a" 60), V.str (repS "a" 61), V.str "", V.str (repS "zz" 200)]) nt
        refine ⟨r, t, _, _, rfl, rfl, St _ _ upd_same, upd_same, by rw [List.length_append, List.length_map, hy, sizeLine_eq]; show _ + 4 ≤ _; omega, fun l nl => ?_⟩
        have Sl := same_upd (o := .lst ((ks.map V.str ++ ys) ++ [V.str (repS "a" 60), V.str (repS "a" 61), V.str "", V.str (repS "zz" 200)])) nl
        have S25 := (Sr.trans St).trans Sl
        have stT : st _ q vs := keep1 (kp2.trans (Keep.of S25)) (hb2.same S25)
        refine ⟨l, rfl, ⟨_, SqL.of upd_same⟩, ?_⟩
        have hl0 : (upd (upd (upd H2 r (.lst (ks.map V.str ++ ys))) t (.lst [V.str (repS "a" 60), V.str (repS "a" 61), V.str "", V.str (repS "zz" 200)])) l (.lst ((ks.map V.str ++ ys) ++ [V.str (repS "a" 60), V.str (repS "a" 61), V.str "", V.str (repS "zz" 200)]))) l = some (.lst ((ks.map V.str ++ ys) ++ [V.str (repS "a" 60), V.str (repS "a" 61), V.str "", V.str (repS "zz" 200)])) := upd_same
        have la : ∀ n, Let (repS "a" n) := fun n => Let.rep (show Let "a" from (by decide +kernel : ∀ c ∈ sg "a", 97 ≤ c ∧ c ≤ 122)) n
        have lz : Let (repS "zz" 200) := Let.rep (show Let "zz" from (by decide +kernel : ∀ c ∈ sg "zz", 97 ≤ c ∧ c ≤ 122)) 200
        have all : ∀ y ∈ (ks.map V.str ++ ys) ++ [V.str (repS "a" 60), V.str (repS "a" 61), V.str "", V.str (repS "zz" 200)], ∀ Hf, Keep (J b) H1 Hf → JW K Hf y := fun y hy Hf kf => by
          rcases List.mem_append.mp hy with hy | hy
          · rcases List.mem_append.mp hy with hy | hy
            · obtain ⟨z, rfl, wz⟩ := hw.get hy
              exact ⟨true, jud_w wz⟩
            · exact ((hv y (ho y hy)).far (KeepN.keep kf)).here.1
          · simp only [List.mem_cons, List.not_mem_nil, or_false] at hy
            rcases hy with rfl | rfl | rfl | rfl
            · exact ⟨true, jud_w ⟨la 60, by rw [repS_length]; decide⟩⟩
            · exact ⟨true, jud_w ⟨la 61, by rw [repS_length]; decide⟩⟩
            · exact ⟨true, jud_w nil_w⟩
            · exact ⟨true, jud_w ⟨lz, by rw [repS_length]; decide⟩⟩
        have kpT : Keep (J b) H1 (upd (upd (upd H2 r (.lst (ks.map V.str ++ ys))) t (.lst [V.str (repS "a" 60), V.str (repS "a" 61), V.str "", V.str (repS "zz" 200)])) l (.lst ((ks.map V.str ++ ys) ++ [V.str (repS "a" 60), V.str (repS "a" 61), V.str "", V.str (repS "zz" 200)]))) := kp2.trans (Keep.of S25)
        generalize upd (upd (upd H2 r (.lst (ks.map V.str ++ ys))) t (.lst [V.str (repS "a" 60), V.str (repS "a" 61), V.str "", V.str (repS "zz" 200)])) l (.lst ((ks.map V.str ++ ys) ++ [V.str (repS "a" 60), V.str (repS "a" 61), V.str "", V.str (repS "zz" 200)])) = H5 at hl0 stT kpT ⊢
        generalize (ks.map V.str ++ ys) ++ [V.str (repS "a" 60), V.str (repS "a" 61), V.str "", V.str (repS "zz" 200)] = xs at hl0 all
        refine for_list (K := K) (xs := xs) (fun n σ H' => Same H5 H' ∧ ∃ a c d, σ = [some (.ref b), some (.ref p), some (.ref q), a, c, d, none]) ⟨Same.refl _, _, _, _, rfl⟩ (fun _ _ _ _ h => SqL.of (h.1 _ _ hl0)) ?_ ?_
        · rintro n y σ H6 hy6 ⟨S6, a, c, d, rfl⟩
          obtain ⟨e, he⟩ := all y (List.mem_of_getElem? hy6) H6 (kpT.trans (Keep.of S6))
          refine ⟨_, rfl, y, e, rfl, he, fun H7 S7 => ?_⟩
          have he7 := he.same S7
          rcases he7 with ⟨z, rfl, lz', w1, w2⟩ | ⟨hn, rfl⟩
          · have sz : z.length ≤ sizeLine := by rw [sizeLine_eq]; omega
            refine ⟨_, rfl, _, rfl, .inl ⟨z, rfl, sz, isWord z, rfl, _, rfl, e, rfl, rfl, _, rfl, ?_⟩⟩
            refine iteFc (ne_str (by rw [w1])) ?_
            refine ⟨_, rfl, _, isWord z && decide (z.length ≤ 60), rfl, .inl ⟨z, rfl, sz, rfl⟩, _, rfl, _, rfl, e, rfl, ?_⟩
            cases e with
            | true =>
              refine iteT ⟨_, rfl, .str z, z.length, rfl, ⟨sz, rfl⟩, _, _, rfl, rfl, _, rfl, rfl, _, rfl, ?_⟩
              refine iteFc (ne_str (by
                rw [w1, Bool.true_and]
                congr 1
                exact decide_eq_decide.mpr (by omega))) ?_
              exact ⟨S6.trans S7, _, _, _, rfl⟩
            | false =>
              refine iteF ⟨false, rfl, rfl, _, rfl, ?_⟩
              refine iteFc (ne_str (by rw [w1]; rfl)) ?_
              exact ⟨S6.trans S7, _, _, _, rfl⟩
          · refine ⟨_, rfl, _, rfl, .inr ⟨hn, false, rfl, _, rfl, false, rfl, rfl, _, rfl, ?_⟩⟩
            refine iteFc (ne_str rfl) ?_
            refine ⟨_, rfl, _, false, rfl, .inr ⟨hn, rfl⟩, _, rfl, _, rfl, false, rfl, iteF ⟨false, rfl, rfl, _, rfl, ?_⟩⟩
            refine iteFc (ne_str rfl) ?_
            exact ⟨S6.trans S7, _, _, _, rfl⟩
        · rintro σ H6 ⟨S6, a, c, d, rfl⟩
          exact ⟨a, c, d, rfl, keep1 (kpT.trans (Keep.of S6)) (stT.2.1.same S6)⟩
    rintro σ H2 ⟨a, c, d, rfl, kp2, hb2, hq2, -, -, hv2⟩
    -- pairs of words
    refine ⟨fun σ H' => ∃ a c d t ps y0, σ = [some (.ref b), some (.ref p), some (.ref q), a, c, d, some (.ref t)] ∧ Keep (J b) H H' ∧ BagAt b H' ∧ H' q = some (.lst vs) ∧ (∀ y ∈ vs, AL b (Odd K) H' y) ∧ H' t = some (.lst ps) ∧ t ≠ b ∧ ps.length = 4 ∧ (∀ y ∈ ps, PairAt H' y) ∧ ps[0]? = some y0, ?_, ?_⟩
    · refine ⟨4, rfl, by decide, by decide, fun D nD => ?_⟩
      have Db := bag_ne hb2 nD
      refine lc_range (lo := 0) (n := 4) (fun i H' => Keep (J b) H2 H' ∧ BagAt b H' ∧ ∃ ys, H' D = some (.lst ys) ∧ ys.length = i ∧ ∀ y ∈ ys, PairAt H' y)
        ⟨Keep.of (same_upd nD), hb2.same (same_upd nD), [], upd_same, rfl, fun y hy => nomatch hy⟩ ?_ ?_
      · rintro i H3 hi ⟨kp3, hb3, ys, hD, hy, ho⟩
        refine ⟨rfl, ?_⟩
        have lw : (ks.map V.str).length < 1000 := by rw [List.length_map]; omega
        have lw0 : 0 < (ks.map V.str).length := by rw [List.length_map]; omega
        have hp3 := (kp2.trans kp3) _ _ pb hp
        refine pick_mem hb3 rfl rfl pb hp3 lw0 lw fun x1 H4 m1 kp4 hb4 => ?_
        refine pick_mem hb4 rfl rfl pb (kp4 _ _ pb hp3) lw0 lw fun x2 H5 m2 kp5 hb5 => ⟨by show 2 ≤ sizeLine; decide, fun t nt => ?_⟩
        obtain ⟨z1, rfl, w1⟩ := hw.get m1
        obtain ⟨z2, rfl, w2⟩ := hw.get m2
        have St := same_upd (o := .tup [V.str z1, V.str z2]) nt
        have kp6 : Keep (J b) H3 (upd H5 t (.tup [V.str z1, V.str z2])) := (kp4.trans kp5).trans (Keep.of St)
        have hb6 : BagAt b (upd H5 t (.tup [V.str z1, V.str z2])) := hb5.same St
        have hD6 := kp6 _ _ Db hD
        refine ⟨ys, hD6, by rw [hy, sizeLine_eq]; omega, (kp3.trans kp6).put nD, bag_upd hb6 Db, ys ++ [.ref t], upd_same, by rw [List.length_append, hy]; rfl, fun u hu => ?_⟩
        rcases List.mem_append.mp hu with hu | hu
        · exact ((ho u hu).keep hb3 kp6).put hD6
        · rw [List.mem_singleton.mp hu]
          exact PairAt.put ⟨t, z1, z2, rfl, upd_same, w1, w2⟩ hD6
      · rintro H3 ⟨kp3, hb3, ys, hD, hy, ho⟩
        have l4 : 0 < ys.length := by omega
        exact ⟨_, _, _, D, ys, ys[0], rfl, kp2.trans kp3, hb3, kp3 _ _ qb hq2, fun y hy => (hv2 y hy).far (KeepN.keep kp3), hD, Db, hy, ho, List.getElem?_eq_getElem l4⟩
    rintro σ H3 ⟨a, c, d, t, ps, y0, rfl, kp3, hb3, hq3, hv3, ht3, tb, lp, hps, hy0⟩
    obtain ⟨t0, x0, z0, rfl, ht0, wx0, wz0⟩ := hps y0 (List.mem_of_getElem? hy0)
    have hp3 := kp3 _ _ pb hp
    obtain ⟨k0, r0, ek⟩ := List.exists_cons_of_ne_nil (fun e => by rw [e] at h1; exact absurd h1 (by decide) : ks ≠ [])
    have gk : atI (ks.map V.str) ((0 : Nat) : Int) = some (.str k0) := atI_nat (by rw [List.getElem?_map, ek]; rfl)
    have wk : W k0 := hw k0 (by rw [ek]; exact List.mem_cons_self)
    refine ⟨fun σ H' => ∃ a c d t ps, σ = [some (.ref b), some (.ref p), some (.ref q), a, c, d, some (.ref t)] ∧ Keep (J b) H H' ∧ BagAt b H' ∧ H' q = some (.lst vs) ∧ (∀ y ∈ vs, AL b (Odd K) H' y) ∧ H' t = some (.lst ps) ∧ t ≠ b ∧ ps.length ≤ 20 ∧ (∀ y ∈ ps, AL b (JG K) H' y), ?_, ?_⟩
    · have cst : ∀ {z : Str} {σ : L2.St}, W z → EltA b (fun _ v => ∃ z, v = .str z ∧ W z) H3 σ (tC (.str z)) := fun h => el_c fun _ => ⟨_, rfl, h⟩
      have wa : W "a" := ⟨(by decide +kernel : ∀ c ∈ sg "a", 97 ≤ c ∧ c ≤ 122), by decide⟩
      have wb : W "b" := ⟨(by decide +kernel : ∀ c ∈ sg "b", 97 ≤ c ∧ c ≤ 122), by decide⟩
      have two : ∀ {u v : Str} {σ : L2.St}, W u → W v → EltA b (JG K) H3 σ (tTup (tCons (tC (.str u)) (tCons (tC (.str v)) tNil))) := fun hu hv => el_tup hb3 (elL_cons (cst hu) (elL_cons (cst hv) elL_nil)) (by decide) fun H p xs e ap => by
        match xs, ap with
        | [y1, y2], ⟨⟨u, e1, h1⟩, ⟨v, e2, h2⟩, _⟩ =>
          subst e1 e2
          exact jg_pair e ⟨true, jud_w h1⟩ ⟨true, jud_w h2⟩
      refine cat_es (b := b) (φ := JG K) (c := 7) rfl ht3 (by omega) (fun y hy => (hps y hy).al hb3) (es_cons (fun Hx Q S kk => ?_) (es_cons (fun Hx Q S kk => ?_) (es_cons ?_ (es_cons (two nil_w nil_w) (es_cons (two wa wa) (es_cons (two nil_w wa) (es_cons (two wb nil_w) es_nil))))))) (by decide) fun v ws H' S hv' hl hws => ?_
      · refine ⟨_, rfl, .inl ⟨t, _, 0, _, rfl, rfl, SqL.of (S _ _ ht3), atI_nat (j := 0) hy0, t0, _, rfl, .inr (SqT.of (S _ _ ht0)), fun l nl => kk _ _ (same_upd nl) fun Hf zf => ?_⟩⟩
        have hl := zf l _ (bag_ne (hb3.same S) nl) (fun _ => by simp) upd_same
        exact ⟨false, .inl ⟨(nst_lst hl).2, rfl⟩⟩
      · refine ⟨_, rfl, .inl ⟨t, _, 0, _, rfl, rfl, SqL.of (S _ _ ht3), atI_nat (j := 0) hy0, by show 1 ≤ sizeLine; decide, fun u nu => ?_⟩⟩
        have Su := same_upd (o := .tup [V.str ""]) nu
        refine ⟨t0, u, _, _, rfl, rfl, SqT.of (Su _ _ (S _ _ ht0)), SqT.of upd_same, by simp, by rw [sizeLine_eq]; show 2 + 1 ≤ _; omega, fun e => (by cases e), fun _ l nl => kk _ _ (Su.trans (same_upd nl)) fun Hf zf => ?_⟩
        have hl := zf l _ (bag_ne (hb3.same (S.trans Su)) nl) (fun _ => by simp) upd_same
        exact (odd_tup hl (by show 3 ≠ 2; omega)).2
      · exact el_tup hb3 (elL_cons (φ := fun _ _ => True) (fun Hx Q S kk => ⟨_, rfl, .inl ⟨p, _, 0, _, rfl, rfl, SqL.of (S _ _ hp3), gk, kk _ _ (Same.refl _) fun _ _ => trivial⟩⟩) elL_nil) (by decide) fun H p xs e ap => (odd_tup e (by rw [allP_len ap]; decide)).2
      · exact ⟨_, _, _, v, ws, rfl, kp3.trans (Keep.of S), hb3.same S, S _ _ hq3, fun y hy => (hv3 y hy).same S, hv', list_ne (hb3.same S) hv' (by omega), by omega, hws⟩
    rintro σ H4 ⟨a, c, d, t, ps, rfl, kp4, hb4, hq4, hv4, ht4, tb4, lp4, hps4⟩
    have hp4 := kp4 _ _ pb hp
    refine ⟨fun σ H' => ∃ a c d t ps, σ = [some (.ref b), some (.ref p), some (.ref q), a, c, d, some (.ref t)] ∧ Keep (J b) H H' ∧ BagAt b H' ∧ H' t = some (.lst ps) ∧ ps.length ≤ 30 ∧ (∀ y ∈ ps, AL b (JG K) H' y), ?_, ?_⟩
    · have v0 : 0 < vs.length := by omega
      have v1 : vs.length < 1000 := by omega
      refine ⟨_, rfl, ?_⟩
      refine pick_mem hb4 rfl rfl qb hq4 v0 v1 fun y1 Ha m1 ka ba => ⟨by show 2 ≤ sizeLine; decide, fun t1 n1 => ?_⟩
      have S1 := same_upd (o := .tup [V.str "a", y1]) n1
      have e1 : (upd Ha t1 (.tup [V.str "a", y1])) t1 = some (.tup [V.str "a", y1]) := upd_same
      have k1 : Keep (J b) H4 (upd Ha t1 (.tup [V.str "a", y1])) := ka.trans (Keep.of S1)
      have b1 := ba.same S1
      have t1b := bag_ne ba n1
      generalize upd Ha t1 (.tup [V.str "a", y1]) = Hb at e1 k1 b1 ⊢
      refine pick_mem b1 rfl rfl qb (k1 _ _ qb hq4) v0 v1 fun y2 Hc m2 kc bc => ⟨by show 2 ≤ sizeLine; decide, fun t2 n2 => ?_⟩
      have S2 := same_upd (o := .tup [y2, V.str ""]) n2
      have e2 : (upd Hc t2 (.tup [y2, V.str ""])) t2 = some (.tup [y2, V.str ""]) := upd_same
      have k2 : Keep (J b) Hb (upd Hc t2 (.tup [y2, V.str ""])) := kc.trans (Keep.of S2)
      have b2 := bc.same S2
      have t2b := bag_ne bc n2
      generalize upd Hc t2 (.tup [y2, V.str ""]) = Hd at e2 k2 b2 ⊢
      refine pick_mem b2 rfl rfl qb (k2 _ _ qb (k1 _ _ qb hq4)) v0 v1 fun y3 He m3 k3 b3 => ?_
      have k14 : Keep (J b) H4 He := (k1.trans k2).trans k3
      refine ⟨_, rfl, .inl ⟨p, _, 0, _, rfl, rfl, SqL.of (k14 _ _ pb hp4), gk, by show 4 ≤ sizeLine; decide, fun u nu => ?_⟩⟩
      have Su := same_upd (o := .lst [V.ref t1, V.ref t2, y3, V.str k0]) nu
      refine ⟨t, u, _, _, rfl, rfl, Su _ _ (k14 _ _ tb4 ht4), upd_same, by rw [sizeLine_eq]; show _ + 4 ≤ _; omega, fun v nv => ?_⟩
      have Sv := same_upd (o := .lst (ps ++ [V.ref t1, V.ref t2, y3, V.str k0])) nv
      have k5 : Keep (J b) He (upd (upd He u (.lst [V.ref t1, V.ref t2, y3, V.str k0])) v (.lst (ps ++ [V.ref t1, V.ref t2, y3, V.str k0]))) := Keep.of (Su.trans Sv)
      have k15 := k14.trans k5
      refine ⟨_, _, _, v, _, rfl, kp4.trans k15, (b3.same Su).same Sv, upd_same, by rw [List.length_append]; show _ + 4 ≤ _; omega, fun y hy => ?_⟩
      rcases List.mem_append.mp hy with hy | hy
      · exact (hps4 y hy).far (KeepN.keep k15)
      · have odd : ∀ {y}, y ∈ vs → AL b (Odd K) (upd (upd He u (.lst [V.ref t1, V.ref t2, y3, V.str k0])) v (.lst (ps ++ [V.ref t1, V.ref t2, y3, V.str k0]))) y := fun h => (hv4 _ h).far (KeepN.keep k15)
        have wa : W "a" := ⟨(by decide +kernel : ∀ c ∈ sg "a", 97 ≤ c ∧ c ≤ 122), by decide⟩
        simp only [List.mem_cons, List.not_mem_nil, or_false] at hy
        rcases hy with rfl | rfl | rfl | rfl
        · exact fun Hf zf => jg_pair (zf _ _ t1b (fun _ => by simp) (k5 _ _ t1b (k3 _ _ t1b (k2 _ _ t1b e1)))) ⟨true, jud_w wa⟩ (odd m1 Hf zf).1
        · exact fun Hf zf => jg_pair (zf _ _ t2b (fun _ => by simp) (k5 _ _ t2b (k3 _ _ t2b e2))) (odd m2 Hf zf).1 ⟨true, jud_w nil_w⟩
        · exact fun Hf zf => (odd m3 Hf zf).2
        · exact fun Hf zf => ⟨false, .inl ⟨not_tup_str, rfl⟩⟩
    rintro σ H5 ⟨a, c, d, t, ps, rfl, kp5, hb5, ht5, lp5, hps5⟩
    refine ⟨_, rfl, t, rfl, ⟨_, SqL.of ht5⟩, fun D nD => ?_⟩
    have Db := bag_ne hb5 nD
    refine lc_list (xs := ps) (K := K) (fun i H' => Same H5 H' ∧ H' D = some (.lst [])) ⟨same_upd nD, upd_same⟩ (fun i H' _ h => SqL.of (h.1 _ _ ht5)) ?_ ?_
    · rintro i y H6 hy6 ⟨S6, hD⟩
      obtain ⟨e, he⟩ := hps5 y (List.mem_of_getElem? hy6) H6 (KeepN.same S6)
      refine ⟨rfl, ?_⟩
      refine ⟨_, rfl, y, e, rfl, he.v, fun H7 S7 => ⟨e, rfl, _, rfl, y, e, rfl, he.same S7, fun H8 S8 => ⟨e, rfl, rfl, _, rfl, ?_⟩⟩⟩
      refine iteFc (ne_str rfl) ?_
      exact ⟨(S6.trans S7).trans S8, S8 _ _ (S7 _ _ hD)⟩
    · rintro H6 ⟨S6, hD⟩
      refine ⟨by decide, fun u nu => ⟨D, u, _, rfl, rfl, SqL.of (same_upd nu _ _ hD), SqL.of upd_same, ?_⟩⟩
      have S7 := S6.trans (same_upd (o := .lst ([] : List V)) nu)
      exact k _ (kp5.trans (Keep.of S7)) (hb5.same S7)
end
end K0
-- K1LS
set_option maxRecDepth 100000
set_option maxHeartbeats 1000000
namespace FM
open PySem L2
theorem exps_let {cs : List Nat} (hc : ∀ c ∈ cs, 97 ≤ c ∧ c ≤ 122) : ∀ d t, Let t → ∀ u ∈ exps cs d t, Let u
  | 0, t, h, u, hu => by rw [List.mem_singleton.mp hu]; exact h
  | d + 1, t, h, u, hu => by
    obtain ⟨c, hcm, hu⟩ := List.mem_flatMap.mp hu
    refine exps_let hc d _ (h.app fun e he => ?_) u hu
    rw [List.mem_singleton.mp (show e ∈ [c] from he)]
    exact hc c hcm
theorem upto_let {cs : List Nat} (hc : ∀ c ∈ cs, 97 ≤ c ∧ c ≤ 122) : ∀ i, ∀ u ∈ upto cs i, Let u
  | 0, u, hu => nomatch hu
  | i + 1, u, hu => by
    rcases List.mem_append.mp hu with h | h
    · exact upto_let hc i u h
    · exact exps_let hc i "" let_nil u h
theorem strs_perm {ys : List V} {zs : List Str} (h : ys.Perm (zs.map V.str)) : ∃ ws : List Str, ys = ws.map V.str ∧ ws.Perm zs := by
  let f : V → Option Str := fun v => match v with | .str z => some z | _ => none
  have e : ∀ l : List Str, (l.map V.str).filterMap f = l := fun l => by
    induction l with
    | nil => rfl
    | cons a r ih => rw [List.map_cons, List.filterMap_cons]; show a :: _ = _; rw [ih]
  refine ⟨ys.filterMap f, ?_, by have q := h.filterMap f; rwa [e] at q⟩
  have all : ∀ y ∈ ys, ∃ z, y = .str z := fun y hy => by
    obtain ⟨z, _, e⟩ := List.mem_map.mp (h.mem_iff.mp hy)
    exact ⟨z, e.symm⟩
  clear h
  induction ys with
  | nil => rfl
  | cons y r ih =>
    obtain ⟨z, rfl⟩ := all y List.mem_cons_self
    rw [List.filterMap_cons]
    show _ = V.str z :: _
    rw [← ih fun y hy => all y (List.mem_cons_of_mem _ hy)]
theorem take_pre {α : Type} {l m : List α} {n : Nat} (h : l <+: m) (k : n ≤ l.length) : m.take n = l.take n := by
  obtain ⟨r, rfl⟩ := h
  rw [List.take_append_of_le_length k]
theorem dpAll_str {K : PySem.W.Frag} {H : Hp} : ∀ zs : List Str, DpAll K H (zs.map V.str) (zs.map PyData.str)
  | [] => .nil
  | z :: r => .cons (.str z) (dpAll_str r)
theorem shaped_strs {zs : List Str} (h : ∀ z ∈ zs, okS z) : SeqAt.shaped (.tuple (zs.map .str)) = true := by
  unfold SeqAt.shaped
  rw [Bool.and_eq_true]
  have a : PyData.canLayAll0 (zs.map .str) = true := by
    induction zs with
    | nil => rfl
    | cons z r ih =>
      show (PyData.strOk z && PyData.canLayAll0 (r.map .str)) = true
      rw [show PyData.strOk z = true from h z List.mem_cons_self, ih fun y hy => h y (List.mem_cons_of_mem _ hy)]
      rfl
  have d : PyData.depthAll (zs.map .str) ≤ 1 := by
    clear a h
    induction zs with
    | nil => simp [PyData.depthAll]
    | cons z r ih =>
      simp only [List.map_cons, PyData.depthAll, PyData.depth]
      omega
  refine ⟨a, decide_eq_true ?_⟩
  simp only [PyData.depth]
  omega
/-- == of two tuples of the same texts -/
theorem eq_strs {K : PySem.W.Frag} {H : Hp} {p q : Addr} {zs : List Str} {Q : VK} (h1 : SqT K H p (zs.map V.str)) (h2 : SqT K H q (zs.map V.str)) (ho : ∀ z ∈ zs, okS z) (k : Q (.bl true) H) : rEqD K (.ref p) (.ref q) H Q := by
  refine ⟨_, _, .tup h1 (dpAll_str zs), .tup h2 (dpAll_str zs), shaped_strs ho, shaped_strs ho, ?_⟩
  rw [SeqAt.eqv_refl _ (SeqAt.canLay_of_shaped (shaped_strs ho))]
  exact k
/-- letters as the law draws them -/
def goodS (s : Str) : Bool := isWord s && K0.lettersB s && decide (∀ c ∈ sg s, 97 ≤ c ∧ c ≤ 122) && (decide (s = "a") || decide (2 ≤ (sg s).length))
end FM
namespace K0
open PySem L2 FM He
section
variable {P : Program} {w : World} {K : PySem.W.Frag} {mg : Str → Option Value} {base : Heap}
theorem ok_law_listed_right {f : Addr} {fd : FuncData} (F : FnP K "_law_listed_right" s__law_listed_right f fd) (T : TP K mg) : FnOk P w K mg base CX0 8 f fd ["_law_bag", "_law_words"] (fun vs H Q _ => ∃ (b p : Addr) (ks : List Str), vs = [.ref b, .ref p] ∧ BagAt b H ∧ p ≠ b ∧ H p = some (.lst (ks.map V.str)) ∧ 2 ≤ ks.length ∧ ks.length ≤ 5 ∧ Drawn 160 ks ∧ ∀ H', Keep (J b) H H' → BagAt b H' → Q (.bl true) H') := by
  obtain ⟨d__law_all_texts, F__law_all_texts⟩ := T.f__law_all_texts
  have G__law_all_texts := ok_law_all_texts (P := P) (w := w) (base := base) F__law_all_texts T
  have b__law_all_texts : Binds K d__law_all_texts ["_law_signs", "_law_most"] [] := F__law_all_texts.bindsN fun _ _ _ _ _ _ us hl => match us, hl with | [_, _], _ => rfl
  obtain ⟨d__law_shuffled, F__law_shuffled⟩ := T.f__law_shuffled
  have G__law_shuffled := ok_law_shuffled (P := P) (w := w) (base := base) F__law_shuffled T
  have b__law_shuffled : Binds K d__law_shuffled ["_law_bag", "_law_items"] [] := F__law_shuffled.bindsN fun _ _ _ _ _ _ us hl => match us, hl with | [_, _], _ => rfl
  obtain ⟨d__law_pick, F__law_pick⟩ := T.f__law_pick
  have G__law_pick := ok_law_pick (P := P) (w := w) (base := base) F__law_pick T
  have b__law_pick : Binds K d__law_pick ["_law_bag", "_law_items"] [] := F__law_pick.bindsN fun _ _ _ _ _ _ us hl => match us, hl with | [_, _], _ => rfl
  obtain ⟨d__law_throw, F__law_throw⟩ := T.f__law_throw
  have G__law_throw := ok_law_throw (P := P) (w := w) (base := base) F__law_throw T
  have b__law_throw : Binds K d__law_throw ["_law_bag", "_law_total"] [] := F__law_throw.bindsN fun _ _ _ _ _ _ us hl => match us, hl with | [_, _], _ => rfl
  obtain ⟨d_texts, F_texts⟩ := T.f_texts
  have ZFn_texts := zfn_texts (P := P) (w := w) (base := base) F_texts T
  have b_texts : Binds K d_texts ["letters", "length"] [] := F_texts.bindsN fun _ _ _ _ _ _ us hl => match us, hl with | [_, _], _ => rfl
  obtain ⟨d_in_order, F_in_order⟩ := T.f_in_order
  have G_in_order := ok_in_order (P := P) (w := w) (base := base) F_in_order T
  have b_in_order : Binds K d_in_order ["texts"] [] := F_in_order.bindsN fun _ _ _ _ _ _ us hl => match us, hl with | [_], _ => rfl
  obtain ⟨d__law_ordered, F__law_ordered⟩ := T.f__law_ordered
  have G__law_ordered := ok_law_ordered (P := P) (w := w) (base := base) F__law_ordered T
  have b__law_ordered : Binds K d__law_ordered ["_law_words"] [] := F__law_ordered.bindsN fun _ _ _ _ _ _ us hl => match us, hl with | [_], _ => rfl
  refine F.ok sc__law_listed_right (fun vs H Q E h => ?_) (fun cdv A outer s H vs Q E hr h => ?_)
  · obtain ⟨b, p, ks, rfl, _⟩ := h
    rfl
  · obtain ⟨b, p, ks, rfl, hb, pb, hp, h2, h5, hd, k⟩ := h
    have nd := sc__law_listed_right.nd
    have hu64 := hr.units
    have hw : AllW ks := hd.all (by omega)
    refine ⟨_, PSs.nox (C8.pss_cut (ps_par (i := 2) (j := 3) (by rfl) nd rfl rfl (by decide) rfl rfl (pa_cons (pe_call G__law_pick (hr.mono (by decide)) rfl T.g__law_pick F__law_pick.kp b__law_pick .nil pass0 (pa_cons (pv 0) (pa_cons (pe_lst (pa_cons pe_str (pa_cons pe_str (pa_cons pe_str (pa_cons pe_str (pa_cons pe_str (pa_cons pe_str pa_nil))))))) pa_nil))) (pa_cons (pe_call G__law_throw (hr.mono (by decide)) rfl T.g__law_throw F__law_throw.kp b__law_throw .nil pass0 (pa_cons (pv 0) (pa_cons pe_int pa_nil))) pa_nil)) (by rfl))
      (C8.pss_cut (ps_set (i := 4) nd rfl (.inl rfl) (pe_call G__law_all_texts (hr.mono (by decide)) rfl T.g__law_all_texts F__law_all_texts.kp b__law_all_texts .nil pass0 (pa_cons (pv 2) (pa_cons (pv 3) pa_nil))))
      (C8.pss_cut (ps_set (i := 5) nd rfl (.inl rfl) (pe_slice sl_list (pe_call G__law_all_texts (hr.mono (by decide)) rfl T.g__law_all_texts F__law_all_texts.kp b__law_all_texts .nil pass0 (pa_cons (pv 2) (pa_cons (pe_ifExp (pt_cmpR op_eq (pv 2) pe_str (nomark _)) pe_int pe_int) pa_nil))) po_none (po_some pe_int)))
      (C8.pss_cut (ps_setLz (i := 6) (n := 9) rfl nd rfl rfl (sw_true rfl rfl rfl (by decide +kernel)) (prn (by rfl) T.b_range pe_int) (PZenQ.zen (pzenQ_call ZFn_texts (hr.mono (by decide)) (by rfl) T.g_texts F_texts.kp b_texts .nil (pa_cons (pv 2) (pa_cons pe_int pa_nil)))) (by decide) (by decide) (by decide +kernel) (by decide +kernel) (hr.mono (by decide)) (by rfl) T.b_zip rfl (by decide +kernel) rfl rfl (by decide +kernel) (by decide +kernel))
      (C8.pss_cut (ps_set (i := 9) nd rfl (.inl rfl) (pe_listZ (pzenQ_call ZFn_texts (hr.mono (by decide)) (by rfl) T.g_texts F_texts.kp b_texts .nil (pa_cons (pv 2) (pa_cons (pv 3) pa_nil))) (hr.mono (by decide)) (by rfl) T.b_list))
      (C8.pss_cut (ps_if (PW.pt (pw_or (pt_cmpR (op_neS hu64) (pv 9) (pv 4) (nomark _)) (pw_or1 (pt_cmpR (op_neS hu64) (pv 6) (pv 5) (nomark _))))) (pss_one (ps_ret pe_bl)) pss_nil)
      (C8.pss_cut (ps_set (i := 10) nd rfl (.inl rfl) (pe_call G__law_shuffled (hr.mono (by decide)) rfl T.g__law_shuffled F__law_shuffled.kp b__law_shuffled .nil pass0 (pa_cons (pv 0) (pa_cons (pe_op op_cat (pv 1) (pe_slice sl_list (pv 4) po_none (po_some pe_int))) pa_nil))))
      (pss_one (ps_ret (pe_and (pe_cmpR (op_eqD hu64) (pe_call G_in_order (hr.mono (by decide)) rfl T.g_in_order F_in_order.kp b_in_order .nil pass0 (pa_cons (pe_callTy call_tuple_of (by rfl) T.b_tuple (by decide +kernel) (pa_cons (pe_op op_cat (pv 10) (pe_slice sl_list (pv 1) po_none (po_some pe_int))) pa_nil)) pa_nil)) (pe_call G__law_ordered (hr.mono (by decide)) rfl T.g__law_ordered F__law_ordered.kp b__law_ordered .nil pass0 (pa_cons (pv 10) pa_nil)) (nomark _)) (pe_one (pe_cmpR (op_eqNilT hu64) (pe_call G_in_order (hr.mono (by decide)) rfl T.g_in_order F_in_order.kp b_in_order .nil pass0 (pa_cons (pe_tup pa_nil) pa_nil)) (pe_tup pa_nil) (nomark _))))))))))))), ?_⟩
    let φ : Hp → V → Prop := fun _ y => ∃ s : Str, y = .str s ∧ goodS s = true
    have gs : ∀ {s : Str}, goodS s = true → ∀ Hf, φ Hf (.str s) := fun h _ => ⟨_, rfl, h⟩
    -- the letters and the length
    refine ⟨fun σ H' => ∃ (s : Str) (n : Nat), σ = [some (.ref b), some (.ref p), some (.str s), some (.int (n : Nat)), none, none, none, none, none, none, none] ∧ goodS s = true ∧ n < 4 ∧ Keep (J b) H H' ∧ BagAt b H', ?_, ?_⟩
    · refine pick_lst (φ := φ) hb rfl (es_cons (el_c (gs (by decide +kernel))) (es_cons (el_c (gs (by decide +kernel))) (es_cons (el_c (gs (by decide +kernel))) (es_cons (el_c (gs (by decide +kernel))) (es_cons (el_c (gs (by decide +kernel))) (es_cons (el_c (gs (by decide +kernel))) es_nil)))))) (by decide) (by decide) fun y H1 kp1 hb1 a => ?_
      obtain ⟨s, rfl, hs⟩ := a.here
      refine throw_vr (n := 4) hb1 rfl (by decide) (by decide) fun r H2 hr2 kp2 hb2 => ⟨_, _, rfl, s, r, rfl, hs, by omega, kp1.trans kp2, hb2⟩
    rintro σ H1 ⟨s, n, rfl, hs, hn, kp1, hb1⟩
    unfold goodS at hs
    simp only [Bool.and_eq_true, Bool.or_eq_true, decide_eq_true_eq] at hs
    obtain ⟨⟨⟨sw, sl⟩, slet⟩, sa⟩ := hs
    have sl0 := sl
    unfold lettersB at sl0
    simp only [Bool.and_eq_true, decide_eq_true_eq] at sl0
    obtain ⟨⟨⟨g1, g4⟩, -⟩, -⟩ := sl0
    rw [← sg_len] at g1 g4
    -- all of them, by the law
    refine ⟨fun σ H' => ∃ d, σ = [some (.ref b), some (.ref p), some (.str s), some (.int (n : Nat)), some (.ref d), none, none, none, none, none, none] ∧ Keep (J b) H H' ∧ BagAt b H' ∧ H' d = some (.lst ((upto (sg s) (n + 1)).map V.str)), ?_, ?_⟩
    · refine ⟨_, rfl, _, rfl, s, n, rfl, g1, g4, by omega, by have := tl_small _ g4 (n + 1) (by omega); omega, fun q H2 S2 hq => ⟨q, rfl, kp1.trans (Keep.of S2), hb1.same S2, hq⟩⟩
    rintro σ H2 ⟨d, rfl, kp2, hb2, hd2⟩
    -- the first nine, by the law
    have h61 : 9 ≤ (upto (sg s) 61).length := by
      rw [upto_len]
      have := tl_ge g1 61
      omega
    refine ⟨fun σ H' => ∃ d f, σ = [some (.ref b), some (.ref p), some (.str s), some (.int (n : Nat)), some (.ref d), some (.ref f), none, none, none, none, none] ∧ Keep (J b) H H' ∧ BagAt b H' ∧ H' d = some (.lst ((upto (sg s) (n + 1)).map V.str)) ∧ H' f = some (.lst (((upto (sg s) 61).take 9).map V.str)), ?_, ?_⟩
    · have go : ∀ m : Nat, m ≤ 9 → 9 ≤ tl (sg s).length (m + 1) → tl (sg s).length (m + 1) ≤ 1000 → ∀ {H3 : Hp}, Same H2 H3 → ∀ q, H3 q = some (.lst ((upto (sg s) (m + 1)).map V.str)) → ∀ f, H3 f = none →
          (upd H3 f (.lst (cutV ((upto (sg s) (m + 1)).map V.str) none (some 9)))) f = some (.lst (((upto (sg s) 61).take 9).map V.str)) := fun m hm h9 hl H3 S3 q hq f nf => by
        rw [upd_same]
        have e := cutV_to ((upto (sg s) (m + 1)).map V.str) 9
        rw [show ((9 : Nat) : Int) = 9 from rfl] at e
        rw [e, ← List.map_take, take_pre (upto_more (sg s) (by omega : m + 1 ≤ 61)) (by rw [upto_len]; exact h9)]
      refine ⟨_, rfl, _, rfl, rfl, _, rfl, ?_⟩
      rw [dec_strV]
      by_cases ea : s = "a"
      · rw [decide_eq_true ea]
        have e1 : (sg s).length = 1 := by rw [ea]; decide
        have ht : tl (sg s).length (9 + 1) = 10 := by rw [e1]; decide
        refine iteT ⟨s, 9, rfl, g1, g4, by omega, by omega, fun q H3 S3 hq => ⟨9, rfl, q, _, rfl, SqL.of hq, fun f nf => ?_⟩⟩
        have Sf := same_upd (o := .lst (cutV ((upto (sg s) (9 + 1)).map V.str) none (some 9))) nf
        exact ⟨d, f, rfl, kp2.trans (Keep.of (S3.trans Sf)), hb2.same (S3.trans Sf), Sf _ _ (S3 _ _ hd2), go 9 (by omega) (by omega) (by omega) S3 q hq f nf⟩
      · rw [decide_eq_false ea]
        have g2 : 2 ≤ (sg s).length := sa.resolve_left ea
        have ht : 9 ≤ tl (sg s).length (3 + 1) := by
          have key : ∀ k ≤ 4, 2 ≤ k → 9 ≤ tl k 4 := by decide
          exact key _ g4 g2
        have ht2 := tl_small _ g4 (3 + 1) (by omega)
        refine iteF ⟨s, 3, rfl, g1, g4, by omega, by omega, fun q H3 S3 hq => ⟨9, rfl, q, _, rfl, SqL.of hq, fun f nf => ?_⟩⟩
        have Sf := same_upd (o := .lst (cutV ((upto (sg s) (3 + 1)).map V.str) none (some 9))) nf
        exact ⟨d, f, rfl, kp2.trans (Keep.of (S3.trans Sf)), hb2.same (S3.trans Sf), Sf _ _ (S3 _ _ hd2), go 3 (by omega) ht (by omega) S3 q hq f nf⟩
    rintro σ H3 ⟨d, f, rfl, kp3, hb3, hd3, hf3⟩
    -- the first nine, as they are asked for
    refine ⟨fun σ H' => ∃ d f g x, σ = [some (.ref b), some (.ref p), some (.str s), some (.int (n : Nat)), some (.ref d), some (.ref f), some (.ref g), x, none, none, none] ∧ Keep (J b) H H' ∧ BagAt b H' ∧ H' d = some (.lst ((upto (sg s) (n + 1)).map V.str)) ∧ H' f = some (.lst (((upto (sg s) 61).take 9).map V.str)) ∧ H' g = some (.lst (((upto (sg s) 61).take 9).map V.str)), ?_, ?_⟩
    · refine ⟨((upto (sg s) 61).take 9).map V.str, by rw [List.length_map, List.length_take]; omega, ?_⟩
      refine ⟨_, rfl, s, 60, rfl, sw, sl, by omega, by show 0 < 9; omega, .inl (Nat.le_refl 9), fun ys H4 S4 hy hl => ⟨?_, fun _ D nD => ?_⟩, fun H4 S4 hl => ?_⟩
      · obtain ⟨r, e⟩ := hy
        have hl9 : ys.length ≤ 9 := hl
        rw [List.map_take, ← e, List.take_take, Nat.min_eq_left hl9, List.take_append_of_le_length (Nat.le_refl _), List.take_length]
      · have SD := same_upd (o := .lst (((upto (sg s) 61).take 9).map V.str)) nD
        exact ⟨d, f, D, _, rfl, kp3.trans (Keep.of (S4.trans SD)), hb3.same (S4.trans SD), SD _ _ (S4 _ _ hd3), SD _ _ (S4 _ _ hf3), upd_same⟩
      · have : (upto (sg s) 61).length < 9 := hl
        omega
    rintro σ H4 ⟨d, f, g, x, rfl, kp4, hb4, hd4, hf4, hg4⟩
    -- all of them, as they are asked for
    refine ⟨fun σ H' => ∃ d f g e x, σ = [some (.ref b), some (.ref p), some (.str s), some (.int (n : Nat)), some (.ref d), some (.ref f), some (.ref g), x, none, some (.ref e), none] ∧ Keep (J b) H H' ∧ BagAt b H' ∧ H' d = some (.lst ((upto (sg s) (n + 1)).map V.str)) ∧ H' f = some (.lst (((upto (sg s) 61).take 9).map V.str)) ∧ H' g = some (.lst (((upto (sg s) 61).take 9).map V.str)) ∧ H' e = some (.lst ((upto (sg s) (n + 1)).map V.str)), ?_, ?_⟩
    · have l400 := tl_small _ g4 (n + 1) (by omega)
      refine ⟨(upto (sg s) (n + 1)).map V.str, by rw [List.length_map, upto_len, sizeLine_eq]; omega, ?_⟩
      refine ⟨_, rfl, _, rfl, s, n, rfl, sw, sl, by omega, Nat.succ_pos _, .inr (by omega), fun ys H5 S5 hy hl => ?_, fun H5 S5 hl => ⟨rfl, fun D nD => ?_⟩⟩
      · obtain ⟨r, e⟩ := hy
        rw [← e]
        show ys = List.take ys.length (ys ++ r) ∧ ys.length ≤ (ys ++ r).length
        rw [List.take_append_of_le_length (Nat.le_refl _), List.take_length, List.length_append]
        exact ⟨rfl, by omega⟩
      · have SD := same_upd (o := .lst ((upto (sg s) (n + 1)).map V.str)) nD
        exact ⟨d, f, g, D, x, rfl, kp4.trans (Keep.of (S5.trans SD)), hb4.same (S5.trans SD), SD _ _ (S5 _ _ hd4), SD _ _ (S5 _ _ hf4), SD _ _ (S5 _ _ hg4), upd_same⟩
    rintro σ H5 ⟨d, f, g, e, x, rfl, kp5, hb5, hd5, hf5, hg5, he5⟩
    -- they are the same
    refine ⟨fun σ H' => ∃ d x1 x2 x3 x4 x5, σ = [some (.ref b), some (.ref p), some (.str s), some (.int (n : Nat)), some (.ref d), x1, x2, x3, x4, x5, none] ∧ Keep (J b) H H' ∧ BagAt b H' ∧ H' d = some (.lst ((upto (sg s) (n + 1)).map V.str)), ?_, ?_⟩
    · generalize (upto (sg s) 61).take 9 = l9 at hf5 hg5
      have key : ∀ U : List Str, U = upto (sg s) (n + 1) → (!decide (U = U)) = false := fun U _ => by rw [decide_eq_true rfl]; rfl
      refine ⟨_, rfl, _, rfl, e, d, upto (sg s) (n + 1), upto (sg s) (n + 1), rfl, rfl, SqL.of he5, SqL.of hd5, _, rfl, ?_⟩
      refine iteFc (key _ rfl) ?_
      refine ⟨_, rfl, _, rfl, g, f, l9, l9, rfl, rfl, SqL.of hg5, SqL.of hf5, _, rfl, ?_⟩
      refine iteFc (show (!decide (l9 = l9)) = false by rw [decide_eq_true rfl]; rfl) ?_
      exact ⟨d, _, _, _, _, _, rfl, kp5, hb5, hd5⟩
    rintro σ H6 ⟨d, x1, x2, x3, x4, x5, rfl, kp6, hb6, hd6⟩
    -- some words in a drawn order
    have hp6 := kp6 _ _ pb hp
    refine ⟨fun σ H' => ∃ d x1 x2 x3 x4 x5 q, ∃ ws : List Str, σ = [some (.ref b), some (.ref p), some (.str s), some (.int (n : Nat)), some (.ref d), x1, x2, x3, x4, x5, some (.ref q)] ∧ Keep (J b) H H' ∧ BagAt b H' ∧ H' q = some (.lst (ws.map V.str)) ∧ ws.length ≤ 10 ∧ AllW ws ∧ ∀ z ∈ ks, z ∈ ws, ?_, ?_⟩
    · refine ⟨_, rfl, _, rfl, _, rfl, 5, rfl, d, _, rfl, SqL.of hd6, fun u nu => ?_⟩
      have e5 : cutV ((upto (sg s) (n + 1)).map V.str) none (some 5) = ((upto (sg s) (n + 1)).take 5).map V.str := by
        have q := cutV_to ((upto (sg s) (n + 1)).map V.str) 5
        rw [List.map_take]
        exact q
      rw [e5]
      have Su := same_upd (o := .lst (((upto (sg s) (n + 1)).take 5).map V.str)) nu
      have l5 : ((upto (sg s) (n + 1)).take 5).length ≤ 5 := by rw [List.length_take]; omega
      refine ⟨p, u, _, _, rfl, rfl, Su _ _ hp6, upd_same, by rw [List.length_map, List.length_map, sizeLine_eq]; omega, fun v nv => ?_⟩
      have Sv := same_upd (o := .lst (ks.map V.str ++ ((upto (sg s) (n + 1)).take 5).map V.str)) nv
      have S := Su.trans Sv
      refine ⟨b, v, _, rfl, hb6.same S, SqL.of upd_same, by rw [List.length_append, List.length_map, List.length_map]; omega, fun q H7 ys hperm kp7 hb7 hq7 => ?_⟩
      rw [← List.map_append] at hperm
      obtain ⟨ws, rfl, hws⟩ := strs_perm hperm
      refine ⟨d, x1, x2, x3, x4, x5, q, ws, rfl, (kp6.trans (Keep.of S)).trans kp7, hb7, hq7, by rw [hws.length_eq, List.length_append]; omega, fun z hz => ?_, fun z hz => hws.mem_iff.mpr (List.mem_append_left _ hz)⟩
      rcases List.mem_append.mp (hws.mem_iff.mp hz) with h | h
      · exact hw z h
      · have hm := List.mem_of_mem_take h
        refine ⟨upto_let slet _ z hm, ?_⟩
        obtain ⟨i, hi, hz2⟩ : ∃ i, i < n + 1 ∧ z ∈ exps (sg s) i "" := by
          clear hz h hws
          generalize n + 1 = N at hm
          induction N with
          | zero => exact nomatch hm
          | succ N ih =>
            rcases List.mem_append.mp hm with h | h
            · obtain ⟨i, hi, q⟩ := ih h
              exact ⟨i, by omega, q⟩
            · exact ⟨N, by omega, h⟩
        have := exps_mem _ _ _ z hz2
        rw [this]
        show 0 + i ≤ 4000
        omega
    rintro σ H7 ⟨d, x1, x2, x3, x4, x5, q, ws, rfl, kp7, hb7, hq7, lw, aw, sub⟩
    have hp7 := kp7 _ _ pb hp
    refine ⟨_, rfl, _, rfl, 1, rfl, p, _, rfl, SqL.of hp7, fun u nu => ?_⟩
    have e1 : cutV (ks.map V.str) none (some 1) = (ks.take 1).map V.str := by
      have q := cutV_to (ks.map V.str) 1
      rw [List.map_take]
      exact q
    rw [e1]
    have Su := same_upd (o := .lst ((ks.take 1).map V.str)) nu
    have l1 : (ks.take 1).length ≤ 1 := by rw [List.length_take]; omega
    refine ⟨q, u, _, _, rfl, rfl, Su _ _ hq7, upd_same, by rw [List.length_map, List.length_map, sizeLine_eq]; omega, fun v nv => ?_⟩
    have Sv := same_upd (o := .lst (ws.map V.str ++ (ks.take 1).map V.str)) nv
    refine ⟨v, _, rfl, .inl ⟨SqL.of upd_same, fun t nt => ?_⟩⟩
    have St := same_upd (o := .tup (ws.map V.str ++ (ks.take 1).map V.str)) nt
    have S := (Su.trans Sv).trans St
    have hws : ∀ z ∈ ws ++ ks.take 1, z ∈ ws := fun z hz => by
      rcases List.mem_append.mp hz with h | h
      · exact h
      · exact sub z (List.mem_of_mem_take h)
    have aws : AllW (ws ++ ks.take 1) := fun z hz => aw z (hws z hz)
    refine ⟨t, ws ++ ks.take 1, rfl, by rw [List.map_append]; exact SqT.of upd_same, by rw [List.length_append]; omega, aws, fun ls t2 H8 ho S8 ht2 => ?_⟩
    have S78 := S.trans S8
    refine ⟨_, rfl, q, ws, rfl, SqL.of (S78 _ _ hq7), by omega, aw, fun ls' t3 H9 ho' S9 ht3 => ?_⟩
    have el : ls' = ls := order_one ho' ho fun z => ⟨fun h => List.mem_append_left _ h, hws z⟩
    subst el
    have okz : ∀ z ∈ byLen ls', okS z := fun z hz => (aw z ((ho'.2.2 z).mp ((List.mergeSort_perm ls' _).mem_iff.mp hz))).ok
    refine eq_strs (SqT.of (S9 _ _ ht2)) (SqT.of ht3) okz ⟨_, rfl, ?_⟩
    refine iteT ?_
    refine ⟨by decide, fun n0 nn0 => ?_⟩
    have S0 := same_upd (o := .tup ([] : List V)) nn0
    refine ⟨n0, [], rfl, SqT.of upd_same, by decide, fun z hz => (nomatch hz), fun l0 t4 HA hoA SA htA => ⟨by decide, fun n1 nn1 => ?_⟩⟩
    have l00 : l0 = [] := by
      cases l0 with
      | nil => rfl
      | cons z r => exact absurd ((hoA.2.2 z).mp List.mem_cons_self) List.not_mem_nil
    subst l00
    have Sn := same_upd (o := .tup ([] : List V)) nn1
    refine ⟨t4, n1, _, rfl, rfl, SqT.of (Sn _ _ htA), SqT.of upd_same, ?_⟩
    have Sall := (((S78.trans S9).trans S0).trans SA).trans Sn
    have eb : ((byLen []).map V.str).isEmpty = true := by
      have : byLen [] = [] := by
        have q := List.mergeSort_perm ([] : List Str) (PySem.W.dataLe false fun x : Str => PyData.int (x.length : Nat))
        exact List.perm_nil.mp q
      rw [this]
      rfl
    rw [eb]
    exact k _ (kp7.trans (Keep.of Sall)) (hb7.same Sall)
end
end K0
-- FmWalk
set_option maxRecDepth 100000
set_option maxHeartbeats 4000000
namespace FM
open PySem PySem.Spec PyProof.Rows L2
theorem walk_G {l : PySem.W.OpenLaw} {n k : Nat} {q : Program} {loose : List Str} {XP : (Str → Option Value) → Heap → Prop} {YP : World → Heap → Prop} {d : DefRec} {x : Str}
    (h1 : l.most = some n) (h2 : n ≤ sizeLine) (h3 : d.params.defaults = []) (h4 : Room k callerA) (h5 : importsNone q = true)
    (F : ∀ (w : World) (mg : Str → Option Value) (fa : Addr) (h : Heap), YP w h → h.Ns mainGlobals mg → mg d.name = some (.ref fa) →
      ∃ (K : PySem.W.Frag) (c T : Addr) (fd : FuncData) (sp : List V → Hp → VK → Prop), K.In h ∧ h.get? T = some { cls := .none, data := .fields #[] } ∧ K.lookup T = none ∧ PySem.W.CodeHd h c T ∧
        (∀ (s : Shared) (u : Value), BindsTo s fd ⟨[u], []⟩ [(x, u)]) ∧
        (∀ (H : Hp) (a : Addr) (ns : List Int), ns.length ≤ n → H T = some (.tbl #[]) → SqL K H a (ns.map V.int) → sp [.ref a] H fun v _ => v = .bl true) ∧
        ∀ base : Heap, K.In base → base.Ns mainGlobals mg → LamX.TabB base mg c T → (∃ o, base.get? sysModules = some o) → FnG l.prog w K mg base k fa fd [x] sp) :
    PySem.W.WalkO q loose XP YP l.row.toRowW d [] (fun f vs => PySem.call f vs) := by
  refine Att.attach_callB h1 h3 fun w s0 s mg mb fa o pm cd doc a vs ns G Y e1 e2 e3 e4 e5 e6 e7 e8 e9 => ?_
  obtain ⟨K, c, T, fd, sp, k1, k2, k3, k4, k5, k6, k7⟩ := F w mg fa _ Y G.T.g e4
  have bi : s.heap.BuiltinsAt mg T := by
    obtain ⟨bm, ob, b1, b2, b3, b4, b5, b6⟩ := G.T.bmain
    refine ⟨bm, ob, b1, b2, fun z => ?_, fun z => ?_, b3, b4, b5, b6⟩
    · obtain ⟨o, es, ep, e, d, _⟩ := G.T.g
      rw [← z, b3] at e; cases e; rw [b6] at d; cases d
    · rw [z, k2] at b3; cases b3; cases b6
  exact law_callG k1 G.T.g G.T.b G.T.builtins G.T.nolimit e9 k2 k3 k4 bi (by obtain ⟨mm, z, _⟩ := (G.T.seer h5).mods; exact ⟨mm, z⟩) e5 e6 (Nat.le_trans e7 h2) h4 k7 k5 fun H t s => k6 H a ns e7 t s
end FM
-- FmGuardN
set_option maxRecDepth 100000
set_option maxHeartbeats 4000000
/-! The law's call with several code tables. -/
namespace FM
open PySem PySem.Spec PyProof.Rows L2
theorem law_callN {P : Program} {w : World} {K : PySem.W.Frag} {mg mb : Str → Option Value} {k : Nat} {fa a : Addr} {CT : List (Addr × Addr)} {fd : FuncData} {x : Str} {sp : List V → Hp → VK → Prop} {s : Shared} {vs : List Value} {ns : List Int}
    (kin : K.In s.heap) (g1 : s.heap.Ns mainGlobals mg) (g2 : s.heap.Ns builtinsNs mb) (g3 : ∀ x : Str, x ≠ "__name__" → mb x = bootBuiltins x) (g4 : s.heap.NoLimit) (g5 : s.gens = #[])
    (tT : ∀ p ∈ CT, s.heap.get? p.2 = some { cls := .none, data := .fields #[] }) (tK : ∀ p ∈ CT, K.lookup p.2 = none) (tC : ∀ p ∈ CT, PySem.W.CodeHd s.heap p.1 p.2) (g6 : ∀ p ∈ CT, s.heap.BuiltinsAt mg p.2) (g7 : ∃ mm, s.heap.Ns sysModules mm)
    (la : s.heap.get? a = some { cls := .type "list", data := .seq vs.toArray }) (li : IntsAre vs ns) (ll : ns.length ≤ sizeLine) (hr : Room k callerA)
    (F : ∀ base : Heap, K.In base → base.Ns mainGlobals mg → (∀ p ∈ CT, LamX.TabB base mg p.1 p.2) → (∃ o, base.get? sysModules = some o) → FnG P w K mg base k fa fd [x] sp) (hbind : ∀ (s : Shared) (u : Value), BindsTo s fd ⟨[u], []⟩ [(x, u)])
    (hsp : ∀ H : Hp, (∀ p ∈ CT, H p.2 = some (.tbl #[])) → SqL K H a (ns.map V.int) → sp [.ref a] H fun v _ => v = .bl true) :
    codeAny (model P w) callerA (.call (.ref fa) ⟨[.ref a], []⟩) (fun r s' => r = .ok (.ret (.bool true)) ∧ OldK s.heap s'.heap ∧ s'.os = s.os ∧ AllBare s'.gens) s := by
  have rel := vals_ints li
  have isT : ∀ b, (∃ p ∈ CT, p.2 = b) → s.heap.get? b = some { cls := .none, data := .fields #[] } := fun b ⟨p, hp, e⟩ => e ▸ tT p hp
  have ne : ¬ ∃ p ∈ CT, p.2 = a := fun z => by rw [isT a z] at la; cases la
  classical
  let H : Hp := fun b => if (∃ p ∈ CT, p.2 = b) then some (.tbl #[]) else if b = a ∧ K.lookup a = none then some (.frz { cls := .type "list", data := .seq vs.toArray } (.lst (ns.map V.int))) else none
  have hT : ∀ p ∈ CT, H p.2 = some (.tbl #[]) := fun p hp => if_pos ⟨p, hp, rfl⟩
  have other : ∀ b, ¬ (∃ p ∈ CT, p.2 = b) → ¬ (b = a ∧ K.lookup a = none) → H b = none := fun b h1 h2 => (if_neg h1).trans (if_neg h2)
  have far : ∀ b o, s.heap.get? b = some o → (∀ vs n, o.data ≠ .seq vs n) → o.data ≠ .fields #[] → H b = none := fun b o e h1 h2 => by
    refine other b (fun z => ?_) fun z => ?_
    · rw [isT b z] at e; cases e; exact h2 rfl
    · rw [z.1, la] at e; cases e; exact h1 _ _ rfl
  have ok : HOk P w H s.heap := fun b u e => by
    by_cases h1 : ∃ p ∈ CT, p.2 = b
    · obtain ⟨p, hp, rfl⟩ := h1
      cases (hT p hp).symm.trans e
      exact tT p hp
    · by_cases h2 : b = a ∧ K.lookup a = none
      · cases ((if_neg h1).trans (if_pos h2)).symm.trans e
        rw [h2.1]
        exact ⟨la, by rw [List.length_map]; exact ll, vs, _, rel, la⟩
      · cases (other b h1 h2).symm.trans e
  have seq : SqL K H a (ns.map V.int) := by
    cases hk : K.lookup a with
    | none => exact .inl (.inr ⟨_, (if_neg ne).trans (if_pos ⟨rfl, hk⟩)⟩)
    | some o =>
      have e := kin a o hk
      rw [la] at e
      cases e
      exact .inr ⟨_, vs.toArray, _, hk, rfl, rfl, rfl, by rw [List.size_toArray, li.length]; exact ll, by simpa using rel⟩
  let B : Heap := hidT s.heap H
  have inB : ∀ b o, s.heap.get? b = some o → H b = none → B.get? b = some o := fun _ _ e n => hidT_get e n
  have dict : ∀ b o (es : Array DictEntry) (ep : Nat), s.heap.get? b = some o → o.data = .dict es ep → B.get? b = some o := fun b o es ep e d => inB b o e (far b o e (fun _ _ z => by rw [d] at z; cases z) fun z => by rw [d] at z; cases z)
  have names : ∀ (b : Addr) (m : Str → Option Value), s.heap.Ns b m → B.Ns b m := fun b m h => by
    obtain ⟨o, es, ep, e, d, r⟩ := h
    exact ⟨o, es, ep, dict b o es ep e d, d, r⟩
  have kinB : K.In B := fun b o e => by
    refine inB b o (kin b o e) (other b (fun z => ?_) fun z => ?_)
    · obtain ⟨p, hp, rfl⟩ := z
      rw [tK p hp] at e; cases e
    · rw [z.1, z.2] at e; cases e
  have mod : L2.Mod K mg B := by
    obtain ⟨mc, l1, l2⟩ := g4
    exact ⟨kinB, names _ _ g1, ⟨mb, names _ _ g2, g3⟩, ⟨mc, names _ _ l1, l2⟩⟩
  have tab : ∀ p ∈ CT, LamX.TabB B mg p.1 p.2 := fun p hp => by
    refine ⟨?_, ?_, fun z => ?_⟩
    · obtain ⟨o, fs, file, tf, flags, tg, inF, text, tt, e, r1, r2, r3, rest⟩ := tC p hp
      refine ⟨o, fs, file, tf, flags, tg, inF, text, tt, inB p.1 o e (far p.1 o e (fun _ _ z => ?_) fun z => ?_), r1, r2, r3, rest⟩
      · rw [r2] at z; cases z
      · rw [r2] at z; cases z; simp at r3
    · obtain ⟨bm, ob, b1, b2, b3, b4, b5, b6, b7, b8⟩ := g6 p hp
      refine ⟨bm, ob, b1, b2, b3, b4, inB bm ob b5 (far bm ob b5 (fun _ _ z => ?_) fun z => ?_), b6, b7, b8⟩
      · rw [b8] at z; cases z
      · rw [b8] at z; cases z
    · obtain ⟨o, es, ep, e, d, _⟩ := g1
      rw [z, tT p hp] at e; cases e; cases d
  have e0 : Env0 P w K mg B callerA [] s H := by
    constructor
    · rfl
    · exact mod
    · exact fun b o e => of_hidT e
    · exact Nat.le_of_eq (hidT_size _ _)
    · trivial
    · intro b hb; exact nomatch (show b ∈ ([] : List Addr) from hb)
    · exact ok
    · exact .of_eq g5
  refine codeAny_mono ((F B kinB (names _ _ g1) tab (by obtain ⟨mm, h⟩ := g7; obtain ⟨o, es, ep, e, _⟩ := names _ _ h; exact ⟨o, e⟩)).run callerA [] s H ⟨[.ref a], []⟩ [.ref a] [.ref a] _ rfl hr e0 (hbind s (.ref a)) (.cons rfl .nil) (hsp H hT seq)) fun r s' h => ?_
  cases r with
  | error e => exact False.elim h
  | ok fl =>
    cases fl with
    | next => exact False.elim h
    | brk => exact False.elim h
    | cont => exact False.elim h
    | ret u =>
      obtain ⟨v, H', os, bare, un, ok', ru, q⟩ := h
      have q' : v = .bl true := q
      subst q'
      cases ru
      have stay : ∀ b o, ¬ (∃ p ∈ CT, p.2 = b) → s.heap.get? b = some o → s'.heap.get? b = some o := fun b o h1 e => by
        by_cases h2 : b = a ∧ K.lookup a = none
        · have z := un.frzs b _ _ ((if_neg h1).trans (if_pos h2))
          rw [h2.1, la] at e
          cases e
          rw [h2.1] at z ⊢
          exact (ok' a _ z).1
        · exact un.keep b o e (other b h1 h2) (fun z => nomatch (show b ∈ ([] : List Addr) from z)) (fun z => nomatch z)
      have tN : ∀ p ∈ CT, ∃ more, s'.heap.get? p.2 = some { cls := .none, data := .fields (#[] ++ more) } := fun p hp => by
        obtain ⟨more, tm⟩ := un.tbls p.2 #[] (hT p hp)
        exact ⟨more, ok' p.2 _ tm⟩
      refine ⟨rfl, ⟨fun b o e => ?_, fun b o e => ?_⟩, os, bare⟩
      · by_cases h1 : ∃ p ∈ CT, p.2 = b
        · obtain ⟨p, hp, rfl⟩ := h1
          cases (tT p hp).symm.trans e
          obtain ⟨more, z⟩ := tN p hp
          exact .inr (.inl ⟨((tC p hp).tab (tT p hp)).isCodeTable, rfl, #[], more, rfl, z⟩)
        · exact .inl (stay b o h1 e)
      · by_cases h1 : ∃ p ∈ CT, p.2 = b
        · obtain ⟨p, hp, rfl⟩ := h1
          obtain ⟨more, z⟩ := tN p hp
          exact ⟨_, z⟩
        · exact ⟨o, stay b o h1 e⟩
theorem walk_N {l : PySem.W.OpenLaw} {n k : Nat} {q : Program} {loose : List Str} {XP : (Str → Option Value) → Heap → Prop} {YP : World → Heap → Prop} {d : DefRec} {x : Str}
    (h1 : l.most = some n) (h2 : n ≤ sizeLine) (h3 : d.params.defaults = []) (h4 : Room k callerA) (h5 : importsNone q = true)
    (F : ∀ (w : World) (mg : Str → Option Value) (fa : Addr) (h : Heap), YP w h → h.Ns mainGlobals mg → mg d.name = some (.ref fa) →
      ∃ (K : PySem.W.Frag) (CT : List (Addr × Addr)) (fd : FuncData) (sp : List V → Hp → VK → Prop), K.In h ∧ (∀ p ∈ CT, h.get? p.2 = some { cls := .none, data := .fields #[] }) ∧ (∀ p ∈ CT, K.lookup p.2 = none) ∧ (∀ p ∈ CT, PySem.W.CodeHd h p.1 p.2) ∧
        (∀ (s : Shared) (u : Value), BindsTo s fd ⟨[u], []⟩ [(x, u)]) ∧
        (∀ (H : Hp) (a : Addr) (ns : List Int), ns.length ≤ n → (∀ p ∈ CT, H p.2 = some (.tbl #[])) → SqL K H a (ns.map V.int) → sp [.ref a] H fun v _ => v = .bl true) ∧
        ∀ base : Heap, K.In base → base.Ns mainGlobals mg → (∀ p ∈ CT, LamX.TabB base mg p.1 p.2) → (∃ o, base.get? sysModules = some o) → FnG l.prog w K mg base k fa fd [x] sp) :
    PySem.W.WalkO q loose XP YP l.row.toRowW d [] (fun f vs => PySem.call f vs) := by
  refine Att.attach_callB h1 h3 fun w s0 s mg mb fa o pm cd doc a vs ns G Y e1 e2 e3 e4 e5 e6 e7 e8 e9 => ?_
  obtain ⟨K, CT, fd, sp, k1, k2, k3, k4, k5, k6, k7⟩ := F w mg fa _ Y G.T.g e4
  have bi : ∀ p ∈ CT, s.heap.BuiltinsAt mg p.2 := fun p hp => by
    obtain ⟨bm, ob, b1, b2, b3, b4, b5, b6⟩ := G.T.bmain
    refine ⟨bm, ob, b1, b2, fun z => ?_, fun z => ?_, b3, b4, b5, b6⟩
    · obtain ⟨o, es, ep, e, d, _⟩ := G.T.g
      rw [← z, b3] at e; cases e; rw [b6] at d; cases d
    · rw [z, k2 p hp] at b3; cases b3; cases b6
  exact law_callN k1 G.T.g G.T.b G.T.builtins G.T.nolimit e9 k2 k3 k4 bi (by obtain ⟨mm, z, _⟩ := (G.T.seer h5).mods; exact ⟨mm, z⟩) e5 e6 (Nat.le_trans e7 h2) h4 k7 k5 fun H t s => k6 H a ns e7 t s
end FM
-- K1Law
set_option maxRecDepth 100000
set_option maxHeartbeats 2000000
namespace K0
open PySem L2 FM He
/-! the law's own answers -/
abbrev long : Str := repS "ab" 500
abbrev pre : Str := ofL ((sg long).take 999)
abbrev most : Str := ofL ((sg long).take 998)
theorem len_long : long.length = 1000 := by decide +kernel
theorem let_long : Let long := by unfold Let; decide +kernel
theorem long_at : sg long = (sg long).take 999 ++ [98] := by decide +kernel
theorem long_pre : long = pre ++ "b" := sg_inj (by rw [sg_app, pre, sg_ofL]; exact long_at)
theorem let_take {z : Str} (h : Let z) (n : Nat) : Let (ofL ((sg z).take n)) := fun c hc => by
  rw [sg_ofL] at hc
  exact h c (List.mem_of_mem_take hc)
theorem w_long : W long := ⟨let_long, by rw [len_long]; decide⟩
theorem len_pre : pre.length = 999 := by rw [← sg_len, pre, sg_ofL, List.length_take, sg_len, len_long]; rfl
theorem w_pre : W pre := ⟨let_take let_long _, by rw [len_pre]; decide⟩
theorem w_most : W most := ⟨let_take let_long _, by rw [← sg_len, most, sg_ofL, List.length_take]; omega⟩
theorem w_lit {z : Str} (h : (sg z).all (fun c => decide (97 ≤ c ∧ c ≤ 122)) = true) (l : z.length ≤ 4000) : W z := ⟨fun c hc => of_decide_eq_true (List.all_eq_true.mp h c hc), l⟩
theorem w_bent : W (pre ++ "c") := ⟨w_pre.1.app (w_lit (z := "c") (by decide +kernel) (by decide)).1, by rw [app_len, len_pre]; decide⟩
theorem bent_ov : ovL long (pre ++ "c") = "b" ∧ ovR long (pre ++ "c") = "c" := by
  constructor
  · conv => lhs; rw [long_pre]
    rw [← led_left, (ov_self pre).1, (ov_self pre).2]
    decide +kernel
  · conv => lhs; rw [long_pre]
    rw [← led_right, (ov_self pre).1, (ov_self pre).2]
    decide +kernel
theorem com_least {ws : List Str} {z : Str} (m : z ∈ ws) (h : ∀ w ∈ ws, sg z <+: sg w) : comAll ws = z := by
  obtain ⟨k, ks, rfl⟩ := List.exists_cons_of_ne_nil (List.ne_nil_of_mem m)
  have q := com_is ks k
  exact com_one q ⟨h, fun p hp => hp z m⟩ fun _ => Iff.rfl
theorem com_long : comAll [long, most, long] = most := by
  have p : sg most <+: sg long := by rw [most, sg_ofL]; exact List.take_prefix ..
  refine com_least (by simp) fun w hw => ?_
  simp only [List.mem_cons, List.not_mem_nil, or_false] at hw
  rcases hw with rfl | rfl | rfl
  · exact p
  · exact List.prefix_refl _
  · exact p
theorem six_order : orderOf ["b", "aa", "", "b", "ab", "a"] ["", "a", "aa", "ab", "b"] := ⟨by decide +kernel, by decide +kernel, fun k => by
  simp only [List.mem_cons, List.not_mem_nil, or_false]
  constructor
  · rintro (rfl | rfl | rfl | rfl | rfl) <;> simp
  · rintro (rfl | rfl | rfl | rfl | rfl | rfl) <;> simp⟩
theorem six_len : byLen ["", "a", "aa", "ab", "b"] = [("" : Str), "a", "b", "aa", "ab"] := by
  have p1 : (byLen ["", "a", "aa", "ab", "b"]).Perm ["", "a", "aa", "ab", "b"] := List.mergeSort_perm _ _
  have p2 : ([("" : Str), "a", "b", "aa", "ab"] : List Str).Perm ["", "a", "aa", "ab", "b"] := by decide +kernel
  refine List.Perm.eq_of_pairwise (le := ordS) (fun a b _ _ h k => ordS_anti h k) (byLen_ord (by decide +kernel) (by decide +kernel)) ?_ (p1.trans p2.symm)
  have all : ([("" : Str), "a", "b", "aa", "ab"] : List Str).Pairwise (fun a b => decide (a.length < b.length ∨ (a.length = b.length ∧ ¬ b.cps.toList < a.cps.toList)) = true) := by decide +kernel
  exact all.imp fun {a b} h => (of_decide_eq_true h).imp id fun ⟨x, y⟩ => ⟨x, List.not_lt.mp y⟩
structure LongF (L : Str) : Prop where
  w : W L
  len : L.length = 1000
  wb : W (ofL ((sg L).take 999) ++ "c")
  bl : ovL L (ofL ((sg L).take 999) ++ "c") = "b"
  br : ovR L (ofL ((sg L).take 999) ++ "c") = "c"
  wm : W (ofL ((sg L).take 998))
  com : comAll [L, ofL ((sg L).take 998), L] = ofL ((sg L).take 998)
theorem long_f : LongF (repS "ab" 500) := ⟨w_long, len_long, w_bent, bent_ov.1, bent_ov.2, w_most, com_long⟩
/-- != of two lists of three pairs and a number -/
theorem ne_told {K : PySem.W.Frag} {H : Hp} {p q t1 t2 t3 s1 s2 s3 : Addr} {a1 b1 a2 b2 a3 b3 : Str} {i : Int} {Q : VK} (h1 : SqL K H p [.ref t1, .ref t2, .ref t3, .int i]) (g1 : SqT K H t1 [.str a1, .str b1]) (g2 : SqT K H t2 [.str a2, .str b2]) (g3 : SqT K H t3 [.str a3, .str b3])
    (h2 : SqL K H q [.ref s1, .ref s2, .ref s3, .int i]) (k1 : SqT K H s1 [.str a1, .str b1]) (k2 : SqT K H s2 [.str a2, .str b2]) (k3 : SqT K H s3 [.str a3, .str b3])
    (sh : SeqAt.shaped (.list [prD a1 b1, prD a2 b2, prD a3 b3, .int i]) = true) (k : Q (.bl false) H) : rNeD K (.ref p) (.ref q) H Q := by
  refine ⟨_, _, .lst h1 (.cons (dp_pr g1) (.cons (dp_pr g2) (.cons (dp_pr g3) (.cons (.int i) .nil)))), .lst h2 (.cons (dp_pr k1) (.cons (dp_pr k2) (.cons (dp_pr k3) (.cons (.int i) .nil)))), sh, sh, ?_⟩
  rw [SeqAt.eqv_refl _ (SeqAt.canLay_of_shaped sh)]
  exact k
def spLaw (K : PySem.W.Frag) : List V → Hp → VK → Prop := fun vs H Q => ∃ (a : Addr) (ns : List Int), vs = [.ref a] ∧ SqL K H a (ns.map V.int) ∧ ∀ H', Q (.bl true) H'
section
variable {P : Program} {w : World} {K : PySem.W.Frag} {mg : Str → Option Value} {base : Heap}
theorem ok_law {f : Addr} {fd : FuncData} (F : FnP K "law" s_law f fd) (T : TP K mg) : FnG P w K mg base 12 f fd ["_law_script"] (spLaw K) := by
  obtain ⟨d__law_start, F__law_start⟩ := T.f__law_start
  have G__law_start := ok_law_start (P := P) (w := w) (base := base) F__law_start T
  have b__law_start : Binds K d__law_start ["_law_script", "_law_at"] [] := F__law_start.bindsN fun _ _ _ _ _ _ us hl => match us, hl with | [_, _], _ => rfl
  obtain ⟨d_delay, F_delay⟩ := T.f_delay
  have G_delay := ok_delay (P := P) (w := w) (base := base) F_delay T
  have b_delay : Binds K d_delay ["word", "other"] [] := F_delay.bindsN fun _ _ _ _ _ _ us hl => match us, hl with | [_, _], _ => rfl
  obtain ⟨d_led_on, F_led_on⟩ := T.f_led_on
  have G_led_on := ok_led_on (P := P) (w := w) (base := base) F_led_on T
  have b_led_on : Binds K d_led_on ["delay", "word", "other"] [] := F_led_on.bindsN fun _ _ _ _ _ _ us hl => match us, hl with | [_, _, _], _ => rfl
  obtain ⟨d_ahead_by, F_ahead_by⟩ := T.f_ahead_by
  have G_ahead_by := ok_ahead_by (P := P) (w := w) (base := base) F_ahead_by T
  have b_ahead_by : Binds K d_ahead_by ["delay"] [] := F_ahead_by.bindsN fun _ _ _ _ _ _ us hl => match us, hl with | [_], _ => rfl
  obtain ⟨d_common_beginning, F_common_beginning⟩ := T.f_common_beginning
  have G_common_beginning := okr_common_beginning (P := P) (w := w) (base := base) F_common_beginning T
  obtain ⟨d__law_drawn_words, F__law_drawn_words⟩ := T.f__law_drawn_words
  have G__law_drawn_words := ok_law_drawn_words (P := P) (w := w) (base := base) F__law_drawn_words T
  have b__law_drawn_words : Binds K d__law_drawn_words ["_law_bag"] [] := F__law_drawn_words.bindsN fun _ _ _ _ _ _ us hl => match us, hl with | [_], _ => rfl
  obtain ⟨d_in_order, F_in_order⟩ := T.f_in_order
  have G_in_order := ok_in_order (P := P) (w := w) (base := base) F_in_order T
  have b_in_order : Binds K d_in_order ["texts"] [] := F_in_order.bindsN fun _ _ _ _ _ _ us hl => match us, hl with | [_], _ => rfl
  obtain ⟨d__law_pick, F__law_pick⟩ := T.f__law_pick
  have G__law_pick := ok_law_pick (P := P) (w := w) (base := base) F__law_pick T
  have b__law_pick : Binds K d__law_pick ["_law_bag", "_law_items"] [] := F__law_pick.bindsN fun _ _ _ _ _ _ us hl => match us, hl with | [_, _], _ => rfl
  obtain ⟨d__law_listed_right, F__law_listed_right⟩ := T.f__law_listed_right
  have G__law_listed_right := ok_law_listed_right (P := P) (w := w) (base := base) F__law_listed_right T
  have b__law_listed_right : Binds K d__law_listed_right ["_law_bag", "_law_words"] [] := F__law_listed_right.bindsN fun _ _ _ _ _ _ us hl => match us, hl with | [_, _], _ => rfl
  obtain ⟨d__law_common_right, F__law_common_right⟩ := T.f__law_common_right
  have G__law_common_right := ok_law_common_right (P := P) (w := w) (base := base) F__law_common_right T
  have b__law_common_right : Binds K d__law_common_right ["_law_words"] [] := F__law_common_right.bindsN fun _ _ _ _ _ _ us hl => match us, hl with | [_], _ => rfl
  obtain ⟨d__law_delays_right, F__law_delays_right⟩ := T.f__law_delays_right
  have G__law_delays_right := ok_law_delays_right (P := P) (w := w) (base := base) F__law_delays_right T
  have b__law_delays_right : Binds K d__law_delays_right ["_law_one", "_law_other", "_law_more", "_law_last"] [] := F__law_delays_right.bindsN fun _ _ _ _ _ _ us hl => match us, hl with | [_, _, _, _], _ => rfl
  obtain ⟨d__law_places_right, F__law_places_right⟩ := T.f__law_places_right
  have G__law_places_right := ok_law_places_right (P := P) (w := w) (base := base) F__law_places_right T
  have b__law_places_right : Binds K d__law_places_right ["_law_words"] [] := F__law_places_right.bindsN fun _ _ _ _ _ _ us hl => match us, hl with | [_], _ => rfl
  obtain ⟨d__law_judged_right, F__law_judged_right⟩ := T.f__law_judged_right
  have G__law_judged_right := ok_law_judged_right (P := P) (w := w) (base := base) F__law_judged_right T
  have b__law_judged_right : Binds K d__law_judged_right ["_law_bag", "_law_words"] [] := F__law_judged_right.bindsN fun _ _ _ _ _ _ us hl => match us, hl with | [_, _], _ => rfl
  refine FnG.of F sc_law (fun vs H Q h => ?_) (fun cdv A outer s H vs Q hcd hg hr h => ?_)
  · obtain ⟨a, ns, rfl, _⟩ := h
    rfl
  · obtain ⟨a, ns, rfl, ha, k⟩ := h
    have nd := sc_law.nd
    have hu64 := hr.units
    refine ⟨_, PSs.nox (C8.pss_cut (ps_for PassesOwn.never rfl (pi_range1 (by rfl) T.b_range (pa_cons (pe_callB (call_max2 rfl) (by rfl) T.b_max (by decide +kernel) (pa_cons pe_int (pa_cons (pe_callB (call_min2 rfl) (by rfl) T.b_min (by decide +kernel) (pa_cons pe_int (pa_cons (pe_callB call_len (by rfl) T.b_len (by decide +kernel) (pa_cons (pv 0) pa_nil)) pa_nil))) pa_nil))) pa_nil)) (pg_name (i := 1) nd rfl (.inl rfl)) (C8.pss_cut (ps_set (i := 2) nd rfl (.inr rfl) (pe_call G__law_start (hr.mono (by decide)) rfl T.g__law_start F__law_start.kp b__law_start .nil pass0 (pa_cons (pv 0) (pa_cons (pv 1) pa_nil))))
      (pss_one (ps_for PassesOwn.never rfl (pi_range1 (by rfl) T.b_range (pa_cons pe_int pa_nil)) (pg_name (i := 3) nd rfl (.inl rfl)) (C8.pss_cut (ps_set (i := 4) nd rfl (.inr rfl) (pe_call G__law_drawn_words (hr.mono (by decide)) rfl T.g__law_drawn_words F__law_drawn_words.kp b__law_drawn_words .nil pass0 (pa_cons (pv 2) pa_nil)))
      (C8.pss_cut (ps_asg (pe_lc (own := [("_law_place", 9)]) rfl nd (pi_range1 (by rfl) T.b_range (pa_cons pe_int pa_nil)) (blkOk_by (own := [("_law_place", 9)]) (N := ["_law_script", "_law_at", "_law_bag", "_law_turn", "_law_words", "_law_one", "_law_other", "_law_more", "_law_last", "_law_place", "_law_told", "_law_long"]) (sc := defScope s_law) (by decide +kernel)) (fun _ _ _ _ _ => (pg_name (i := 9) nd rfl (.inl rfl))) (fun _ _ _ _ _ => pts_nil) (fun _ _ _ _ _ => (pe_call G__law_pick (hr.mono (by decide)) rfl T.g__law_pick F__law_pick.kp b__law_pick .nil pass0 (pa_cons (pv 2) (pa_cons (pe_op op_cat (pv 4) (pe_lst (pa_cons pe_str pa_nil))) pa_nil))))) (pg_unl (by rfl) (pgs_cons (pg_name (i := 5) nd rfl (.inl rfl)) (pgs_cons (pg_name (i := 6) nd rfl (.inl rfl)) (pgs_cons (pg_name (i := 7) nd rfl (.inl rfl)) (pgs_cons (pg_name (i := 8) nd rfl (.inl rfl)) pgs_nil))))))
      (C8.pss_cut (ps_if (PW.pt (pw_or (pt_not (pt_val (pe_call G__law_common_right (hr.mono (by decide)) rfl T.g__law_common_right F__law_common_right.kp b__law_common_right .nil pass0 (pa_cons (pv 4) pa_nil)))) (pw_or1 (pt_not (pt_val (pe_call G__law_delays_right (hr.mono (by decide)) rfl T.g__law_delays_right F__law_delays_right.kp b__law_delays_right .nil pass0 (pa_cons (pv 5) (pa_cons (pv 6) (pa_cons (pv 7) (pa_cons (pv 8) pa_nil)))))))))) (pss_one (ps_ret pe_bl)) pss_nil)
      (C8.pss_cut (ps_if (PW.pt (pw_or (pt_not (pt_val (pe_call G__law_places_right (hr.mono (by decide)) rfl T.g__law_places_right F__law_places_right.kp b__law_places_right .nil pass0 (pa_cons (pv 4) pa_nil)))) (pw_or1 (pt_not (pt_val (pe_call G__law_judged_right (hr.mono (by decide)) rfl T.g__law_judged_right F__law_judged_right.kp b__law_judged_right .nil pass0 (pa_cons (pv 2) (pa_cons (pv 4) pa_nil)))))))) (pss_one (ps_ret pe_bl)) pss_nil)
      (pss_one (ps_if (pt_not (pt_val (pe_call G__law_listed_right (hr.mono (by decide)) rfl T.g__law_listed_right F__law_listed_right.kp b__law_listed_right .nil pass0 (pa_cons (pv 2) (pa_cons (pv 4) pa_nil))))) (pss_one (ps_ret pe_bl)) pss_nil))))))))))
      (C8.pss_cut (ps_set (i := 10) nd rfl (.inl rfl) (pe_lst (pa_cons (pe_call G_delay (hr.mono (by decide)) rfl T.g_delay F_delay.kp b_delay .nil pass0 (pa_cons pe_str (pa_cons pe_str pa_nil))) (pa_cons (pe_call G_led_on (hr.mono (by decide)) rfl T.g_led_on F_led_on.kp b_led_on .nil pass0 (pa_cons (pe_tup (pa_cons pe_str (pa_cons pe_str pa_nil))) (pa_cons pe_str (pa_cons pe_str pa_nil)))) (pa_cons (pe_call G_led_on (hr.mono (by decide)) rfl T.g_led_on F_led_on.kp b_led_on .nil pass0 (pa_cons (pe_tup (pa_cons pe_str (pa_cons pe_str pa_nil))) (pa_cons pe_str (pa_cons pe_str pa_nil)))) (pa_cons (pe_call G_ahead_by (hr.mono (by decide)) rfl T.g_ahead_by F_ahead_by.kp b_ahead_by .nil pass0 (pa_cons (pe_tup (pa_cons pe_str (pa_cons pe_str pa_nil))) pa_nil)) pa_nil))))))
      (C8.pss_cut (ps_if (PW.pt (pw_or (pt_cmpR (op_neD hu64) (pv 10) (pe_lst (pa_cons (pe_tup (pa_cons pe_str (pa_cons pe_str pa_nil))) (pa_cons (pe_tup (pa_cons pe_str (pa_cons pe_str pa_nil))) (pa_cons (pe_tup (pa_cons pe_str (pa_cons pe_str pa_nil))) (pa_cons (pe_un un_neg pe_int) pa_nil))))) (nomark _)) (pw_or1 (pt_cmpR op_ne (pe_callF G_common_beginning (hr.mono (by decide)) rfl T.g_common_beginning F_common_beginning.kp pass0 (pa_cons pe_str (pa_cons pe_str (pa_cons pe_str pa_nil)))) pe_str (nomark _))))) (pss_one (ps_ret pe_bl)) pss_nil)
      (C8.pss_cut (ps_set (i := 11) nd rfl (.inl rfl) (pe_op op_repS pe_str pe_int))
      (C8.pss_cut (ps_set (i := 10) nd rfl (.inl rfl) (pe_lst (pa_cons (pe_call G_delay (hr.mono (by decide)) rfl T.g_delay F_delay.kp b_delay .nil pass0 (pa_cons (pv 11) (pa_cons (pv 11) pa_nil))) (pa_cons (pe_call G_delay (hr.mono (by decide)) rfl T.g_delay F_delay.kp b_delay .nil pass0 (pa_cons (pv 11) (pa_cons (pe_op op_add_str (pe_slice sl_str (pv 11) po_none (po_some pe_int)) pe_str) pa_nil))) (pa_cons (pe_call G_led_on (hr.mono (by decide)) rfl T.g_led_on F_led_on.kp b_led_on .nil pass0 (pa_cons (pe_tup (pa_cons (pv 11) (pa_cons pe_str pa_nil))) (pa_cons pe_str (pa_cons (pv 11) pa_nil)))) (pa_cons (pe_call G_ahead_by (hr.mono (by decide)) rfl T.g_ahead_by F_ahead_by.kp b_ahead_by .nil pass0 (pa_cons (pe_tup (pa_cons pe_str (pa_cons (pv 11) pa_nil))) pa_nil)) pa_nil))))))
      (C8.pss_cut (ps_if (PW.pt (pw_or (pt_cmpR (op_neD hu64) (pv 10) (pe_lst (pa_cons (pe_tup (pa_cons pe_str (pa_cons pe_str pa_nil))) (pa_cons (pe_tup (pa_cons pe_str (pa_cons pe_str pa_nil))) (pa_cons (pe_tup (pa_cons pe_str (pa_cons pe_str pa_nil))) (pa_cons (pe_un un_neg pe_int) pa_nil))))) (nomark _)) (pw_or1 (pt_cmpR op_ne (pe_callF G_common_beginning (hr.mono (by decide)) rfl T.g_common_beginning F_common_beginning.kp pass0 (pa_cons (pv 11) (pa_cons (pe_slice sl_str (pv 11) po_none (po_some pe_int)) (pa_cons (pv 11) pa_nil)))) (pe_slice sl_str (pv 11) po_none (po_some pe_int)) (nomark _))))) (pss_one (ps_ret pe_bl)) pss_nil)
      (C8.pss_cut (ps_set (i := 10) nd rfl (.inl rfl) (pe_lst (pa_cons (pe_callF G_common_beginning (hr.mono (by decide)) rfl T.g_common_beginning F_common_beginning.kp pass0 (pa_cons pe_str (pa_cons pe_str (pa_cons pe_str (pa_cons pe_str pa_nil))))) (pa_cons (pe_callF G_common_beginning (hr.mono (by decide)) rfl T.g_common_beginning F_common_beginning.kp pass0 (pa_cons pe_str (pa_cons pe_str (pa_cons pe_str (pa_cons pe_str (pa_cons pe_str (pa_cons pe_str pa_nil))))))) pa_nil))))
      (C8.pss_cut (ps_if (pt_cmpR (op_neS hu64) (pv 10) (pe_lst (pa_cons pe_str (pa_cons pe_str pa_nil))) (nomark _)) (pss_one (ps_ret pe_bl)) pss_nil)
      (pss_one (ps_ret (pe_and (pe_cmpR op_eq (C8.pe_gc (v := .int 60) (by rfl) T.c_MAX_TEXT) pe_int (nomark _)) (pe_one (pe_cmpR (op_eqD hu64) (pe_call G_in_order (hr.mono (by decide)) rfl T.g_in_order F_in_order.kp b_in_order .nil pass0 (pa_cons (pe_tup (pa_cons pe_str (pa_cons pe_str (pa_cons pe_str (pa_cons pe_str (pa_cons pe_str (pa_cons pe_str pa_nil))))))) pa_nil)) (pe_tup (pa_cons pe_str (pa_cons pe_str (pa_cons pe_str (pa_cons pe_str (pa_cons pe_str pa_nil)))))) (nomark _)))))))))))))), ?_⟩
    have hnn : (ns.map V.int).length = ns.length := by simp
    refine ⟨fun σ H1 => (∃ u1 u2 u3 u4 u5 u6 u7 u8 u9 u10 u11, σ = [some (.ref a), u1, u2, u3, u4, u5, u6, u7, u8, u9, u10, u11]), ?_, ?_⟩
    · refine ⟨_, rfl, _, _, rfl, .inl ⟨_, ha, rfl⟩, _, _, rfl, _, _, rfl, _, rfl, ?_, ?_, ?_⟩
      · split <;> split <;> omega
      · rw [hnn]
        have : (ns.length : Int) < 2 ^ 62 ∨ ¬ (ns.length : Int) < 2 ^ 62 := Decidable.em _
        split <;> split <;> omega
      refine for_range (lo := 0) (fun i σ H' => (∃ u1 u2 u3 u4 u5 u6 u7 u8 u9 u10 u11, σ = [some (.ref a), u1, u2, u3, u4, u5, u6, u7, u8, u9, u10, u11]) ∧ SqL K H' a (ns.map V.int)) ⟨⟨_, _, _, _, _, _, _, _, _, _, _, rfl⟩, ha⟩ ?_ (fun σ H' h => h.1)
      rintro i σ H' hi ⟨⟨u1, u2, u3, u4, u5, u6, u7, u8, u9, u10, u11, rfl⟩, sq1⟩
      refine ⟨fun σ H2 => ∃ b, σ = [some (.ref a), some (.int (i : Nat)), some (.ref b), u3, u4, u5, u6, u7, u8, u9, u10, u11] ∧ BagAt b H2 ∧ ∀ Hf, KeepN b H2 Hf → SqL K Hf a (ns.map V.int), ?_, ?_⟩
      · have e0 : (0 : Int) + (i : Int) = ((i : Nat) : Int) := Int.zero_add _
        rw [e0]
        exact ⟨_, rfl, _, rfl, a, ns, i, rfl, sq1, fun p g s c np => ⟨p, rfl, ⟨g, s, c, upd_same⟩, fun Hf k => sql_far sq1 np k⟩⟩
      rintro σ H2 ⟨b, rfl, hb2, sq2⟩
      refine ⟨3, rfl, by decide, by decide, ?_⟩
      refine for_range (lo := 0) (n := 3) (fun j σ H3 => (∃ u3 u4 u5 u6 u7 u8 u9 u10 u11, σ = [some (.ref a), some (.int (i : Nat)), some (.ref b), u3, u4, u5, u6, u7, u8, u9, u10, u11]) ∧ BagAt b H3 ∧ Keep (J b) H2 H3) ⟨⟨_, _, _, _, _, _, _, _, _, rfl⟩, hb2, Keep.refl⟩ ?_ (fun σ H3 ⟨⟨u3, u4, u5, u6, u7, u8, u9, u10, u11, e⟩, _, k3⟩ => ⟨⟨_, _, _, _, _, _, _, _, _, _, _, e⟩, sq2 _ (KeepN.keep k3)⟩)
      clear u3 u4 u5 u6 u7 u8 u9 u10 u11 hb2
      rintro j σ H3 hj ⟨⟨u3, u4, u5, u6, u7, u8, u9, u10, u11, rfl⟩, hb3, k23⟩
      -- the words
      refine ⟨fun σ H4 => ∃ p ks v, σ = [some (.ref a), some (.int (i : Nat)), some (.ref b), v, some (.ref p), u5, u6, u7, u8, u9, u10, u11] ∧ BagAt b H4 ∧ Keep (J b) H2 H4 ∧ p ≠ b ∧ H4 p = some (.lst (ks.map V.str)) ∧ 2 ≤ ks.length ∧ ks.length ≤ 5 ∧ Drawn 160 ks, ?_, ?_⟩
      · refine ⟨_, rfl, b, rfl, hb3, fun q H4 ks h2 h5 hd k4 b4 hq => ⟨q, ks, _, rfl, b4, k23.trans k4, ?_, hq, h2, h5, hd⟩⟩
        rintro rfl
        obtain ⟨g, s, c, e⟩ := b4
        rw [hq] at e
        have e3 := HO.lst.inj (Option.some.inj e)
        cases ks with
        | nil => cases e3
        | cons z r => cases e3
      clear hb3 k23
      rintro σ H4 ⟨p, ks, v, rfl, hb4, k24, pb, hp4, h2, h5, hd⟩
      -- four of them
      refine ⟨fun σ H5 => ∃ x y m l u8 u9, σ = [some (.ref a), some (.int (i : Nat)), some (.ref b), v, some (.ref p), some (.str x), some (.str y), some (.str m), some (.str l), u8, u9, u11] ∧ BagAt b H5 ∧ Keep (J b) H2 H5 ∧ H5 p = some (.lst (ks.map V.str)) ∧ Wd 160 x ∧ Wd 160 y ∧ Wd 160 m ∧ Wd 160 l, ?_, ?_⟩
      · refine ⟨4, rfl, by decide, by decide, fun D nD => ?_⟩
        have Db : D ≠ b := bag_ne hb4 nD
        refine lc_range (lo := 0) (n := 4) (fun n H' => Keep (J b) H2 H' ∧ BagAt b H' ∧ H' p = some (.lst (ks.map V.str)) ∧ ∃ zs : List Str, H' D = some (.lst (zs.map V.str)) ∧ zs.length = n ∧ ∀ z ∈ zs, Wd 160 z)
          ⟨k24.trans (Keep.of (same_upd nD)), hb4.same (same_upd nD), same_upd nD _ _ hp4, [], upd_same, rfl, fun z hz => nomatch hz⟩ ?_ ?_
        · rintro n H1 hn ⟨kp, hb, hp, zs, hD, hl, hz⟩
          refine ⟨rfl, _, rfl, _, rfl, by show 1 ≤ sizeLine; decide, fun u nu => ?_⟩
          have Su := same_upd (o := .lst [V.str ""]) nu
          refine ⟨p, u, _, _, rfl, rfl, Su _ _ hp, upd_same, by rw [List.length_map, sizeLine_eq]; show ks.length + 1 ≤ _; omega, fun t nt => ?_⟩
          have St := same_upd (o := .lst (ks.map V.str ++ [V.str ""])) nt
          have S := Su.trans St
          have hb2 := hb.same S
          obtain ⟨g, s', c, hb3⟩ := id hb2
          have tb : t ≠ b := fun e => by
            rw [e, upd_same] at hb3
            have e3 := HO.lst.inj (Option.some.inj hb3)
            cases ks with
            | nil => cases e3
            | cons z r => cases e3
          refine ⟨b, g, s', c, .ref t, _, rfl, hb3, .inl ⟨t, rfl, .inl (SqL.of upd_same)⟩, fun g' c' => .inl ⟨t, rfl, .inl (SqL.of (by rw [upd_ne tb]; exact upd_same))⟩, by rw [List.length_append]; show 0 < _ + 1; omega, by rw [List.length_append, List.length_map]; show _ + 1 < _; omega, fun y g' c' hy => ?_⟩
          have hy2 : ∃ z, y = .str z ∧ Wd 160 z := by
            rcases List.mem_append.mp hy with h | h
            · obtain ⟨z, hz, e⟩ := List.mem_map.mp h
              exact ⟨z, e.symm, hd z hz⟩
            · exact ⟨"", List.mem_singleton.mp h, let_nil, by decide⟩
          obtain ⟨z, rfl, wz⟩ := hy2
          have k5 : Keep (J b) (upd (upd H1 u (.lst [V.str ""])) t (.lst (ks.map V.str ++ [V.str ""]))) (upd (upd (upd H1 u (.lst [V.str ""])) t (.lst (ks.map V.str ++ [V.str ""]))) b (bagO g' s' c')) := Keep.upd rfl
          have hb5 : (upd (upd (upd H1 u (.lst [V.str ""])) t (.lst (ks.map V.str ++ [V.str ""]))) b (bagO g' s' c')) b = some (bagO g' s' c') := upd_same
          have hp5 := k5 _ _ pb (S _ _ hp)
          have hD5 := k5 _ _ Db (S _ _ hD)
          have kp5 := (kp.trans (Keep.of S)).trans k5
          generalize upd (upd (upd H1 u (.lst [V.str ""])) t (.lst (ks.map V.str ++ [V.str ""]))) b (bagO g' s' c') = H5 at k5 hb5 hp5 hD5 kp5 ⊢
          have Dp : D ≠ p := fun e => by
            rw [e] at nD
            rw [hp4] at nD
            cases nD
          refine ⟨_, hD5, by rw [List.length_map, sizeLine_eq]; omega, fun q o hq hqo => ?_, ⟨g', s', c', by rw [upd_ne Db.symm]; exact hb5⟩, by rw [upd_ne Dp.symm]; exact hp5, zs ++ [z], by rw [upd_same, List.map_append]; rfl, by rw [List.length_append, hl]; rfl, fun y hy => ?_⟩
          · have qD : q ≠ D := fun e => by
              have := k24 _ _ hq hqo
              rw [e, nD] at this
              cases this
            rw [upd_ne qD]
            exact kp5 _ _ hq hqo
          · rcases List.mem_append.mp hy with h | h
            · exact hz y h
            · rw [List.mem_singleton.mp h]
              exact wz
        · rintro H1 ⟨kp, hb, hp, zs, hD, hl, hz⟩
          match zs, hl with
          | [x, y, m, l], _ =>
            exact ⟨D, _, rfl, SqL.of hD, rfl, _, _, rfl, _, _, rfl, _, _, rfl, _, _, rfl, rfl, x, y, m, l, _, _, rfl, hb, kp, hp, hz _ (by simp), hz _ (by simp), hz _ (by simp), hz _ (by simp)⟩
      clear hb4 k24 hp4
      rintro σ H5 ⟨x, y, m, l, u8, u9, rfl, hb5, k25, hp5, wx, wy, wm, wl⟩
      -- the three pairs of answers
      let M : L2.St → Hp → Prop := fun σ H' => ∃ u3 u5 u6 u7 u8 u9 u10 u11, σ = [some (.ref a), some (.int (i : Nat)), some (.ref b), u3, some (.ref p), u5, u6, u7, u8, u9, u10, u11] ∧ BagAt b H' ∧ Keep (J b) H2 H' ∧ H' p = some (.lst (ks.map V.str))
      refine ⟨M, ?_, ?_⟩
      · refine ⟨_, rfl, p, ks, rfl, hp5, h2, h5, hd, fun H6 S6 => ⟨_, rfl, iteF ?_⟩⟩
        refine ⟨_, rfl, _, rfl, _, rfl, _, rfl, x, y, m, l, rfl, wx, wy, wm, wl, fun H7 S7 => ⟨_, rfl, iteF ?_⟩⟩
        have S := S6.trans S7
        exact ⟨_, _, _, _, _, _, _, _, rfl, hb5.same S, k25.trans (Keep.of S), S _ _ hp5⟩
      clear hb5 k25 hp5
      rintro σ H6 ⟨u3, u5, u6, u7, u8, u9, u10, u11, rfl, hb6, k26, hp6⟩
      refine ⟨M, ?_, ?_⟩
      · refine ⟨_, rfl, p, ks, rfl, hp6, h5, hd, fun H7 S7 => ⟨_, rfl, iteF ?_⟩⟩
        refine ⟨_, rfl, _, rfl, b, p, ks, rfl, hb6.same S7, pb, S7 _ _ hp6, by omega, h5, hd, fun H8 k8 b8 => ⟨_, rfl, iteF ?_⟩⟩
        exact ⟨_, _, _, _, _, _, _, _, rfl, b8, (k26.trans (Keep.of S7)).trans k8, k8 _ _ pb (S7 _ _ hp6)⟩
      clear hb6 k26 hp6
      rintro σ H7 ⟨u3, u5, u6, u7, u8, u9, u10, u11, rfl, hb7, k27, hp7⟩
      refine ⟨_, rfl, _, rfl, b, p, ks, rfl, hb7, pb, hp7, h2, h5, hd, fun H8 k8 b8 => ⟨_, rfl, iteF ?_⟩⟩
      exact ⟨⟨_, _, _, _, _, _, _, _, _, rfl⟩, b8, k27.trans k8⟩
    rintro σ H1 ⟨u1, u2, u3, u4, u5, u6, u7, u8, u9, u10, u11, rfl⟩
    clear ha hnn
    -- what is told of four
    refine ⟨fun σ H' => ∃ p t1 t2 t3, σ = [some (.ref a), u1, u2, u3, u4, u5, u6, u7, u8, u9, some (.ref p), u11] ∧ H' p = some (.lst [.ref t1, .ref t2, .ref t3, .int (-1)]) ∧ H' t1 = some (.tup [.str "ba", .str "c"]) ∧ H' t2 = some (.tup [.str "d", .str "a"]) ∧ H' t3 = some (.tup [.str "", .str ""]), ?_, ?_⟩
    · refine ⟨"abba", "abc", rfl, w_lit (by decide +kernel) (by decide), w_lit (by decide +kernel) (by decide), fun H2 t1 S2 n1 e1 => ⟨by decide, fun p1 m1 => ?_⟩⟩
      have Sa := same_upd (o := .tup [V.str "", V.str "c"]) m1
      refine ⟨p1, "", "c", "cd", "a", rfl, ⟨SqT.of upd_same, nil_w, w_lit (by decide +kernel) (by decide), rfl⟩, w_lit (by decide +kernel) (by decide), w_lit (by decide +kernel) (by decide), w_lit (by decide +kernel) (by decide), w_lit (by decide +kernel) (by decide), fun H3 t2 S3 n2 e2 => ⟨by decide, fun p2 m2 => ?_⟩⟩
      have Sb := same_upd (o := .tup [V.str "", V.str "c"]) m2
      refine ⟨p2, "", "c", "c", "", rfl, ⟨SqT.of upd_same, nil_w, w_lit (by decide +kernel) (by decide), rfl⟩, w_lit (by decide +kernel) (by decide), w_lit (by decide +kernel) (by decide), w_lit (by decide +kernel) (by decide), w_lit (by decide +kernel) (by decide), fun H4 t3 S4 n3 e3 => ⟨by decide, fun p3 m3 => ?_⟩⟩
      have Sc := same_upd (o := .tup [V.str "", V.str "c"]) m3
      refine ⟨p3, "", "c", rfl, ⟨SqT.of upd_same, nil_w, w_lit (by decide +kernel) (by decide), rfl⟩, fun H5 S5 => ?_⟩
      rw [show ((("" : Str).length : Nat) : Int) - ((("c" : Str).length : Nat) : Int) = -1 from by decide +kernel]
      refine ⟨by show 4 ≤ sizeLine; decide, fun p np => ?_⟩
      have Sd := same_upd (o := .lst [V.ref t1, V.ref t2, V.ref t3, V.int (-1)]) np
      have Z3 := (Sc.trans S5).trans Sd
      have Z2 := (Sb.trans S4).trans Z3
      have Z1 := (Sa.trans S3).trans Z2
      rw [show ovL "abba" "abc" = "ba" from by decide +kernel, show ovR "abba" "abc" = "c" from by decide +kernel] at e1
      rw [show ovL ("" ++ "cd") ("c" ++ "a") = "d" from by decide +kernel, show ovR ("" ++ "cd") ("c" ++ "a") = "a" from by decide +kernel] at e2
      rw [show ovL ("" ++ "c") ("c" ++ "") = "" from by decide +kernel, show ovR ("" ++ "c") ("c" ++ "") = "" from by decide +kernel] at e3
      exact ⟨p, t1, t2, t3, rfl, upd_same, Z1 _ _ e1, Z2 _ _ e2, Z3 _ _ e3⟩
    rintro σ H2 ⟨p, t1, t2, t3, rfl, hp, e1, e2, e3⟩
    refine ⟨fun σ H' => ∃ p, σ = [some (.ref a), u1, u2, u3, u4, u5, u6, u7, u8, u9, some (.ref p), u11], ?_, ?_⟩
    · refine ⟨_, rfl, by decide, fun s1 n1 => ⟨by decide, fun s2 n2 => ⟨by decide, fun s3 n3 => ?_⟩⟩⟩
      have Sa := same_upd (o := .tup [V.str "ba", V.str "c"]) n1
      have Sb := same_upd (o := .tup [V.str "d", V.str "a"]) n2
      have Sc := same_upd (o := .tup [V.str "", V.str ""]) n3
      refine ⟨_, rfl, by show 4 ≤ sizeLine; decide, fun q nq => ?_⟩
      have Sd := same_upd (o := .lst [V.ref s1, V.ref s2, V.ref s3, V.int (-1)]) nq
      have Sbc := Sb.trans Sc
      have S := (Sa.trans Sbc).trans Sd
      refine ne_told (SqL.of (S _ _ hp)) (SqT.of (S _ _ e1)) (SqT.of (S _ _ e2)) (SqT.of (S _ _ e3)) (SqL.of upd_same) (SqT.of (Sd _ _ (Sbc _ _ upd_same))) (SqT.of (Sd _ _ (Sc _ _ upd_same))) (SqT.of (Sd _ _ upd_same)) (by decide +kernel) ⟨_, rfl, iteF ?_⟩
      refine ⟨["zz", "z", "zza"], rfl, by simp, by decide, ?_, fun H3 S3 => ?_⟩
      · intro z hz
        simp only [List.mem_cons, List.not_mem_nil, or_false] at hz
        rcases hz with rfl | rfl | rfl <;> exact w_lit (by decide +kernel) (by decide)
      refine ⟨rfl, _, rfl, ?_⟩
      rw [ne_str (show comAll ["zz", "z", "zza"] = ("z" : Str) from by decide +kernel)]
      exact iteF ⟨_, rfl⟩
    clear hp e1 e2 e3
    rintro σ H3 ⟨p, rfl⟩
    -- a long word
    refine ⟨fun σ H' => ∃ p L, σ = [some (.ref a), u1, u2, u3, u4, u5, u6, u7, u8, u9, some (.ref p), some (.str L)] ∧ LongF L, ?_, ?_⟩
    · exact ⟨"ab", 500, rfl, rfl, by decide, by decide, p, _, rfl, long_f⟩
    rintro σ H4 ⟨p, L, rfl, lf⟩
    have lz : L.length ≤ sizeLine := by rw [lf.len]; decide
    have c9 : cutS L none (some 999) = ofL ((sg L).take 999) := cutS_take L (n := 999) (by rw [lf.len]; decide)
    have c8 : cutS L none (some 998) = ofL ((sg L).take 998) := cutS_take L (n := 998) (by rw [lf.len]; decide)
    have l9 : (ofL ((sg L).take 999)).length ≤ 1000 := by rw [← sg_len, sg_ofL, List.length_take]; omega
    refine ⟨fun σ H' => ∃ p t1 t2 t3, σ = [some (.ref a), u1, u2, u3, u4, u5, u6, u7, u8, u9, some (.ref p), some (.str L)] ∧ H' p = some (.lst [.ref t1, .ref t2, .ref t3, .int (-1000)]) ∧ H' t1 = some (.tup [.str "", .str ""]) ∧ H' t2 = some (.tup [.str "b", .str "c"]) ∧ H' t3 = some (.tup [.str "", .str ""]), ?_, ?_⟩
    · refine ⟨_, rfl, _, rfl, L, L, rfl, lf.w, lf.w, fun H5 t1 S5 n1 e1 => ?_⟩
      refine ⟨_, rfl, _, rfl, _, rfl, L, rfl, lz, ?_⟩
      rw [c9]
      refine ⟨_, _, rfl, rfl, by rw [sizeLine_eq]; show _ + 1 ≤ _; omega, L, _, rfl, lf.w, lf.wb, fun H6 t2 S6 n2 e2 => ?_⟩
      refine ⟨_, rfl, by show 2 ≤ sizeLine; decide, fun p2 m2 => ?_⟩
      have Sb := same_upd (o := .tup [V.str L, V.str ""]) m2
      refine ⟨_, rfl, p2, L, "", "", L, rfl, ⟨SqT.of upd_same, lf.w, nil_w, ?_⟩, by rw [app_nil]; exact lf.w, by rw [nil_app]; exact lf.w, nil_w, lf.w, fun H7 t3 S7 n3 e3 => ?_⟩
      · unfold apartS
        cases L.cps.toList <;> rfl
      refine ⟨_, rfl, by show 2 ≤ sizeLine; decide, fun p3 m3 => ?_⟩
      have Sc := same_upd (o := .tup [V.str "", V.str L]) m3
      refine ⟨p3, "", L, rfl, ⟨SqT.of upd_same, nil_w, lf.w, rfl⟩, fun H8 S8 => ?_⟩
      rw [show ((("" : Str).length : Nat) : Int) - ((L.length : Nat) : Int) = -1000 from by rw [lf.len]; decide +kernel]
      refine ⟨by show 4 ≤ sizeLine; decide, fun p np => ?_⟩
      have Sd := same_upd (o := .lst [V.ref t1, V.ref t2, V.ref t3, V.int (-1000)]) np
      have Z3 := (Sc.trans S8).trans Sd
      have Z2 := (Sb.trans S7).trans Z3
      have Z1 := S6.trans Z2
      rw [(ov_self L).1, (ov_self L).2] at e1
      rw [lf.bl, lf.br] at e2
      rw [app_nil, nil_app, (ov_self L).1, (ov_self L).2] at e3
      exact ⟨p, t1, t2, t3, rfl, upd_same, Z1 _ _ e1, Z2 _ _ e2, Z3 _ _ e3⟩
    rintro σ H5 ⟨p, t1, t2, t3, rfl, hp, e1, e2, e3⟩
    refine ⟨fun σ H' => ∃ p, σ = [some (.ref a), u1, u2, u3, u4, u5, u6, u7, u8, u9, some (.ref p), some (.str L)], ?_, ?_⟩
    · refine ⟨_, rfl, by decide, fun s1 n1 => ⟨by decide, fun s2 n2 => ⟨by decide, fun s3 n3 => ?_⟩⟩⟩
      have Sa := same_upd (o := .tup [V.str "", V.str ""]) n1
      have Sb := same_upd (o := .tup [V.str "b", V.str "c"]) n2
      have Sc := same_upd (o := .tup [V.str "", V.str ""]) n3
      refine ⟨_, rfl, by show 4 ≤ sizeLine; decide, fun q nq => ?_⟩
      have Sd := same_upd (o := .lst [V.ref s1, V.ref s2, V.ref s3, V.int (-1000)]) nq
      have Sbc := Sb.trans Sc
      have S := (Sa.trans Sbc).trans Sd
      refine ne_told (SqL.of (S _ _ hp)) (SqT.of (S _ _ e1)) (SqT.of (S _ _ e2)) (SqT.of (S _ _ e3)) (SqL.of upd_same) (SqT.of (Sd _ _ (Sbc _ _ upd_same))) (SqT.of (Sd _ _ (Sc _ _ upd_same))) (SqT.of (Sd _ _ upd_same)) (by decide +kernel) ⟨_, rfl, iteF ?_⟩
      refine ⟨_, rfl, _, rfl, _, rfl, L, rfl, lz, ?_⟩
      rw [c8]
      refine ⟨_, rfl, [L, ofL ((sg L).take 998), L], rfl, by simp, by show 3 ≤ 1000; decide, ?_, fun H3 S3 => ?_⟩
      · intro z hz
        simp only [List.mem_cons, List.not_mem_nil, or_false] at hz
        rcases hz with rfl | rfl | rfl
        · exact lf.w
        · exact lf.wm
        · exact lf.w
      refine ⟨_, rfl, _, rfl, L, rfl, lz, ?_⟩
      rw [c8]
      refine ⟨rfl, _, rfl, ?_⟩
      rw [ne_str lf.com]
      exact iteF ⟨_, rfl⟩
    clear hp e1 e2 e3
    rintro σ H6 ⟨p, rfl⟩
    -- two more
    refine ⟨fun σ H' => ∃ p, σ = [some (.ref a), u1, u2, u3, u4, u5, u6, u7, u8, u9, some (.ref p), some (.str L)] ∧ H' p = some (.lst [.str "a", .str ""]), ?_, ?_⟩
    · refine ⟨["abc", "abd", "abc", "a"], rfl, by simp, by decide, ?_, fun H7 S7 => ?_⟩
      · intro z hz
        simp only [List.mem_cons, List.not_mem_nil, or_false] at hz
        rcases hz with rfl | rfl | rfl | rfl <;> exact w_lit (by decide +kernel) (by decide)
      refine ⟨["zz", "zz", "zz", "zz", "y", "zz"], rfl, by simp, by decide, ?_, fun H8 S8 => ?_⟩
      · intro z hz
        simp only [List.mem_cons, List.not_mem_nil, or_false] at hz
        rcases hz with rfl | rfl | rfl | rfl | rfl | rfl <;> exact w_lit (by decide +kernel) (by decide)
      refine ⟨by decide, fun q nq => ⟨q, rfl, ?_⟩⟩
      rw [upd_same, show comAll ["abc", "abd", "abc", "a"] = ("a" : Str) from by decide +kernel, show comAll ["zz", "zz", "zz", "zz", "y", "zz"] = ("" : Str) from by decide +kernel]
    rintro σ H7 ⟨p, rfl, hp⟩
    refine ⟨fun σ H' => True, ?_, ?_⟩
    · refine ⟨_, rfl, by decide, fun q nq => ?_⟩
      refine ⟨p, q, ["a", ""], ["a", ""], rfl, rfl, SqL.of (same_upd nq _ _ hp), SqL.of upd_same, _, rfl, iteF trivial⟩
    rintro σ H8 -
    refine ⟨rfl, true, rfl, iteT ?_⟩
    refine ⟨by decide, fun t nt => ⟨t, ["b", "aa", "", "b", "ab", "a"], rfl, SqT.of upd_same, by decide, ?_, fun ls q H9 ho S9 hq => ?_⟩⟩
    · intro z hz
      simp only [List.mem_cons, List.not_mem_nil, or_false] at hz
      rcases hz with rfl | rfl | rfl | rfl | rfl | rfl <;> exact w_lit (by decide +kernel) (by decide)
    have el : ls = [("" : Str), "a", "aa", "ab", "b"] := order_one ho six_order fun _ => Iff.rfl
    subst el
    rw [six_len] at hq
    refine ⟨by decide, fun r nr => ?_⟩
    exact eq_strs (zs := [("" : Str), "a", "b", "aa", "ab"]) (SqT.of (same_upd nr _ _ hq)) (SqT.of upd_same) (by unfold okS; decide +kernel) (k _)
end
end K0
-- FmOx
set_option maxRecDepth 100000
set_option maxHeartbeats 4000000
/-! OxC and ExcC, found out by evaluation. -/
namespace FM
open PySem PySem.Spec PyProof.Rows L2
def oxShape (K : PySem.W.Frag) (C : Addr) (bm : List Value) (nI : String) : Bool :=
  match K.lookup C with
  | some ⟨.type "type", _, .cls cd, sl⟩ => (match sl.toList with
    | [_, _, _, _, some (.builtin n), _] => decide (n = nI) && (decide (cd.mro = .ref C :: bm) && (cd.hasDict && !cd.hasDel))
    | _ => false)
  | _ => false
def oxB (K : PySem.W.Frag) (C : Addr) (bm : List Value) (nI : String) : Bool :=
  oxShape K C bm nI && (decide (PySem.W.findIn K (.ref C) "__setattr__" = some (some (.builtin "object.__setattr__"))) &&
    (decide (PySem.W.findIn K (.ref C) "__getattribute__" = some (some (.builtin "BaseException.__getattribute__"))) &&
    (decide (PySem.W.findIn K (.ref C) "__getattr__" = some none) && (decide (PySem.W.subIn K (.ref C) (.type "BaseException") = some true) &&
    (decide (PySem.W.typeIn K (.ref C) = some (.type "type")) && (PySem.W.keepIn K (.ref C) && PySem.W.hasDictIn K C))))))
theorem oxB_ok {K : PySem.W.Frag} {C : Addr} {bm : List Value} {B nI iI : String} {bB : List Value} (F : ExcBaseFacts B nI iI bB) (c : PySem.FX.Chain B bm) (ho : bm.contains (.type "object") = true)
    (hp : ∀ (C : Addr) (self : Value), refuseLoop self "__setattr__" (.ref C :: bm) = pure ()) (h : oxB K C bm nI = true) : OxC K C := by
  unfold oxB at h
  simp only [Bool.and_eq_true, decide_eq_true_eq] at h
  obtain ⟨h0, h1, h2, h3, h4, h5, h6, h7⟩ := h
  refine ⟨⟨B, nI, iI, bB, bm, F, c, ho, hp C, ?_⟩, h1, h2, h3, h4, h5, h6, h7⟩
  unfold oxShape at h0
  split at h0
  · rename_i dd cd sl e
    split at h0
    · rename_i k0 k1 k2 k3 n k5 hs
      simp only [Bool.and_eq_true, decide_eq_true_eq, Bool.not_eq_true'] at h0
      obtain ⟨hn, hm, hd, hdel⟩ := h0
      subst hn
      obtain ⟨nm, bs, mro, ns, qn, hdct, sn, sub, ab, col, del⟩ := cd
      dsimp only at hm hd hdel
      subst hm hd hdel
      have e2 : sl = #[k0, k1, k2, k3, some (.builtin n), k5] := by
        obtain ⟨l⟩ := sl
        exact congrArg Array.mk hs
      subst e2
      exact ⟨nm, qn, ns, bs, sn, sub, ab, col, dd, k0, k1, k2, k3, k5, e⟩
    · cases h0
  · cases h0
def excB (K : PySem.W.Frag) (D : Addr) : Bool :=
  decide (PySem.W.findIn K (.ref D) "__getattribute__" = some (some (.builtin "BaseException.__getattribute__"))) && (decide (PySem.W.findIn K (.ref D) "__getattr__" = some none) &&
    (decide (PySem.W.subIn K (.ref D) (.type "BaseException") = some true) && (PySem.W.hasDictIn K D && (decide (PySem.W.findIn K (.ref D) "__class__" = some (some (.builtin "object.__class__"))) &&
    (decide (PySem.W.specialIn K (.builtin "object.__class__") "__get__" = some (some (.builtin "getset_descriptor.__get__"))) && (decide (PySem.W.takesIn K (.builtin "object.__class__") = some true) &&
    decide (PySem.W.mroIn K D (.type "object") = some true)))))))
theorem excB_ok {K : PySem.W.Frag} {D : Addr} (h : excB K D = true) : ExcC K D := by
  unfold excB at h
  simp only [Bool.and_eq_true, decide_eq_true_eq] at h
  obtain ⟨h1, h2, h3, h4, h5, h6, h7, h8⟩ := h
  exact ⟨h1, h2, h3, h4, h5, h6, h7, h8⟩
theorem goes_IndexError (C : Addr) (self : Value) : refuseLoop self "__setattr__" [.ref C, .type "IndexError", .type "LookupError", .type "Exception", .type "BaseException", .type "object"] = pure () := by kernel_rfl
theorem goes_KeyError (C : Addr) (self : Value) : refuseLoop self "__setattr__" [.ref C, .type "KeyError", .type "LookupError", .type "Exception", .type "BaseException", .type "object"] = pure () := by kernel_rfl
theorem goes_OverflowError (C : Addr) (self : Value) : refuseLoop self "__setattr__" [.ref C, .type "OverflowError", .type "ArithmeticError", .type "Exception", .type "BaseException", .type "object"] = pure () := by kernel_rfl
theorem goes_ArithmeticError (C : Addr) (self : Value) : refuseLoop self "__setattr__" [.ref C, .type "ArithmeticError", .type "Exception", .type "BaseException", .type "object"] = pure () := by kernel_rfl
theorem goes_RuntimeError (C : Addr) (self : Value) : refuseLoop self "__setattr__" [.ref C, .type "RuntimeError", .type "Exception", .type "BaseException", .type "object"] = pure () := by kernel_rfl
theorem goes_LookupError (C : Addr) (self : Value) : refuseLoop self "__setattr__" [.ref C, .type "LookupError", .type "Exception", .type "BaseException", .type "object"] = pure () := by kernel_rfl
end FM
-- FmHook
set_option maxRecDepth 100000
set_option maxHeartbeats 2000000
/-! A Hook over a part of the heap that is gathered by names: few objects, quick to look up. -/
namespace FM
open PySem PySem.Spec PyProof.Rows L2 He
def nsAd (g : Addr → Option Obj) (a : Addr) : List Addr := match g a with
  | some ⟨_, _, .cls cd, _⟩ => [cd.ns]
  | _ => []
def cdAd (g : Addr → Option Obj) (a : Addr) : List Addr := match g a with
  | some ⟨_, _, .func fd, _⟩ => (match fd.code with
    | .ref c => [c]
    | _ => [])
  | _ => []
/-- the globals xs, their namespaces and code objects, the inits of the classes ms and their code objects -/
def gath (xs ms : List Str) (g : Addr → Option Obj) : List Addr :=
  (fun as => (fun ns => (fun is => mainGlobals :: (as ++ (ns ++ (is ++ (as ++ is).flatMap (cdAd g))))) (ms.map fun x => ma (frG g (mainGlobals :: (as ++ ns))) (ga (frG g [mainGlobals]) x) "__init__"))
    (as.flatMap (nsAd g))) (xs.map fun x => ga (frG g [mainGlobals]) x)
section
variable (xs ms : List Str) (fa : List Fa) (fn : List DefD) (tf : List Defn) (ex : PySem.W.Frag → Bool)
def obsN (g : Addr → Option Obj) : AlX := (fun K => (obsT fa fn [] K, ex K && tabsB g tf K)) (frT g (gath xs ms g))
variable {xs ms fa fn tf ex}
theorem says_of {w : World} {h : Heap} (e : obsN xs ms fa fn tf ex h.get? = valX fn [] w) : SaysX fa fn [] tf ex w h (frT h.get? (gath xs ms h.get?)) := by
  let K := frT h.get? (gath xs ms h.get?)
  have e1 : obsT fa fn [] K = valT fn [] w := congrArg Prod.fst e
  have e2 : (ex K && tabsB h.get? tf K) = true := congrArg Prod.snd e
  obtain ⟨h1, h2⟩ := ba e2
  have all : ∀ p ∈ tf, PySem.W.codeHdIn K (cT K p).1 (cT K p).2 = true ∧ ∃ o, h.get? (cT K p).2 = some o ∧ emptyTab o = true := fun p hp => by
    obtain ⟨z1, z2⟩ := ba (List.all_eq_true.mp h2 p hp)
    cases q : h.get? (cT K p).2 with
    | none => rw [q] at z2; cases z2
    | some o => rw [q] at z2; exact ⟨z1, o, rfl, z2⟩
  constructor
  · exact e1
  · exact h1
  · exact fun p hp => (all p hp).1
  · intro p hp
    obtain ⟨_, o, q, z⟩ := all p hp
    exact frT_none q z
  · intro p hp
    obtain ⟨_, o, q, z⟩ := all p hp
    rw [q, emptyTab_eq z]
variable (xs ms fa fn tf ex)
def hookN : PySem.W.Hook where
  α := AlX
  obs := fun s => obsN xs ms fa fn tf ex s.heap.get?
  val := fun w => valX fn [] w
  says := fun w h => ∃ K : PySem.W.Frag, K.In h ∧ SaysX fa fn [] tf ex w h K
  of := fun _ _ e => ⟨_, frT_in, says_of e⟩
  keeps := fun _ _ _ h k => by
    obtain ⟨K, i, c⟩ := h
    exact ⟨K, i.keeps k, c.t, c.more, c.hd, c.out, fun p hp => k _ _ (c.empty p hp)⟩
variable {xs ms fa fn tf ex}
theorem obsN_eq {g : Addr → Option Obj} {s : Shared} (h : ∀ a, g a = s.heap.get? a) : obsN xs ms fa fn tf ex g = (hookN xs ms fa fn tf ex).obs s := by
  have e : g = s.heap.get? := funext h
  rw [e]
  rfl
end
end FM
-- K1Head
set_option maxRecDepth 100000
set_option maxHeartbeats 0
namespace K0H
open PySem PySem.Spec PyProof.Rows L2 FM He K0
def d_is_integer : DefD := ⟨("is_integer", none), "is_integer", "is_integer", defArgs s_is_integer, defBody s_is_integer, defScope s_is_integer, [], []⟩
def d_is_below : DefD := ⟨("is_below", none), "is_below", "is_below", defArgs s_is_below, defBody s_is_below, defScope s_is_below, [], []⟩
def d_is_tuple_of : DefD := ⟨("is_tuple_of", none), "is_tuple_of", "is_tuple_of", defArgs s_is_tuple_of, defBody s_is_tuple_of, defScope s_is_tuple_of, [], []⟩
def d_is_word : DefD := ⟨("is_word", none), "is_word", "is_word", defArgs s_is_word, defBody s_is_word, defScope s_is_word, [], []⟩
def d_is_text : DefD := ⟨("is_text", none), "is_text", "is_text", defArgs s_is_text, defBody s_is_text, defScope s_is_text, [], []⟩
def d_is_letters : DefD := ⟨("is_letters", none), "is_letters", "is_letters", defArgs s_is_letters, defBody s_is_letters, defScope s_is_letters, [], []⟩
def d_is_delay : DefD := ⟨("is_delay", none), "is_delay", "is_delay", defArgs s_is_delay, defBody s_is_delay, defScope s_is_delay, [], []⟩
def d_common_beginning : DefD := ⟨("common_beginning", none), "common_beginning", "common_beginning", defArgs s_common_beginning, defBody s_common_beginning, defScope s_common_beginning, [], []⟩
def d_delay : DefD := ⟨("delay", none), "delay", "delay", defArgs s_delay, defBody s_delay, defScope s_delay, [], []⟩
def d_distance : DefD := ⟨("distance", none), "distance", "distance", defArgs s_distance, defBody s_distance, defScope s_distance, [], []⟩
def d_led_on : DefD := ⟨("led_on", none), "led_on", "led_on", defArgs s_led_on, defBody s_led_on, defScope s_led_on, [], []⟩
def d_ahead_by : DefD := ⟨("ahead_by", none), "ahead_by", "ahead_by", defArgs s_ahead_by, defBody s_ahead_by, defScope s_ahead_by, [], []⟩
def d_texts : DefD := ⟨("texts", none), "texts", "texts", defArgs s_texts, defBody s_texts, defScope s_texts, [], []⟩
def d_in_order : DefD := ⟨("in_order", none), "in_order", "in_order", defArgs s_in_order, defBody s_in_order, defScope s_in_order, [], []⟩
def d_sorted_words : DefD := ⟨("sorted_words", none), "sorted_words", "sorted_words", defArgs s_sorted_words, defBody s_sorted_words, defScope s_sorted_words, [], []⟩
def d_shared_beginning : DefD := ⟨("shared_beginning", none), "shared_beginning", "shared_beginning", defArgs s_shared_beginning, defBody s_shared_beginning, defScope s_shared_beginning, [], []⟩
def d_left_over : DefD := ⟨("left_over", none), "left_over", "left_over", defArgs s_left_over, defBody s_left_over, defScope s_left_over, [], []⟩
def d_check_length : DefD := ⟨("check_length", none), "check_length", "check_length", defArgs s_check_length, defBody s_check_length, defScope s_check_length, [], []⟩
def d__shared : DefD := ⟨("_shared", none), "_shared", "_shared", defArgs s__shared, defBody s__shared, defScope s__shared, [], []⟩
def d__check_word : DefD := ⟨("_check_word", none), "_check_word", "_check_word", defArgs s__check_word, defBody s__check_word, defScope s__check_word, [], []⟩
def d__check_delay : DefD := ⟨("_check_delay", none), "_check_delay", "_check_delay", defArgs s__check_delay, defBody s__check_delay, defScope s__check_delay, [], []⟩
def d__law_start : DefD := ⟨("_law_start", none), "_law_start", "_law_start", defArgs sStart, defBody sStart, defScope sStart, [], []⟩
def d__law_throw : DefD := ⟨("_law_throw", none), "_law_throw", "_law_throw", defArgs sThrow, defBody sThrow, defScope sThrow, [], []⟩
def d__law_pick : DefD := ⟨("_law_pick", none), "_law_pick", "_law_pick", defArgs sPick, defBody sPick, defScope sPick, [], []⟩
def d__law_shuffled : DefD := ⟨("_law_shuffled", none), "_law_shuffled", "_law_shuffled", defArgs s__law_shuffled, defBody s__law_shuffled, defScope s__law_shuffled, [], []⟩
def d__law_drawn_word : DefD := ⟨("_law_drawn_word", none), "_law_drawn_word", "_law_drawn_word", defArgs s__law_drawn_word, defBody s__law_drawn_word, defScope s__law_drawn_word, [], []⟩
def d__law_ordered : DefD := ⟨("_law_ordered", none), "_law_ordered", "_law_ordered", defArgs s__law_ordered, defBody s__law_ordered, defScope s__law_ordered, [], []⟩
def d__law_all_texts : DefD := ⟨("_law_all_texts", none), "_law_all_texts", "_law_all_texts", defArgs s__law_all_texts, defBody s__law_all_texts, defScope s__law_all_texts, [], []⟩
def d__law_common : DefD := ⟨("_law_common", none), "_law_common", "_law_common", defArgs s__law_common, defBody s__law_common, defScope s__law_common, [], []⟩
def d__law_gap_of : DefD := ⟨("_law_gap_of", none), "_law_gap_of", "_law_gap_of", defArgs s__law_gap_of, defBody s__law_gap_of, defScope s__law_gap_of, [], []⟩
def d__law_is_word : DefD := ⟨("_law_is_word", none), "_law_is_word", "_law_is_word", defArgs s__law_is_word, defBody s__law_is_word, defScope s__law_is_word, [], []⟩
def d__law_is_gap : DefD := ⟨("_law_is_gap", none), "_law_is_gap", "_law_is_gap", defArgs s__law_is_gap, defBody s__law_is_gap, defScope s__law_is_gap, [], []⟩
def d__law_drawn_words : DefD := ⟨("_law_drawn_words", none), "_law_drawn_words", "_law_drawn_words", defArgs s__law_drawn_words, defBody s__law_drawn_words, defScope s__law_drawn_words, [], []⟩
def d__law_common_right : DefD := ⟨("_law_common_right", none), "_law_common_right", "_law_common_right", defArgs s__law_common_right, defBody s__law_common_right, defScope s__law_common_right, [], []⟩
def d__law_delays_right : DefD := ⟨("_law_delays_right", none), "_law_delays_right", "_law_delays_right", defArgs s__law_delays_right, defBody s__law_delays_right, defScope s__law_delays_right, [], []⟩
def d__law_places_right : DefD := ⟨("_law_places_right", none), "_law_places_right", "_law_places_right", defArgs s__law_places_right, defBody s__law_places_right, defScope s__law_places_right, [], []⟩
def d__law_judged_right : DefD := ⟨("_law_judged_right", none), "_law_judged_right", "_law_judged_right", defArgs s__law_judged_right, defBody s__law_judged_right, defScope s__law_judged_right, [], []⟩
def d__law_listed_right : DefD := ⟨("_law_listed_right", none), "_law_listed_right", "_law_listed_right", defArgs s__law_listed_right, defBody s__law_listed_right, defScope s__law_listed_right, [], []⟩
def d_law : DefD := ⟨("law", none), "law", "law", defArgs s_law, defBody s_law, defScope s_law, [], []⟩
def fn0 : List DefD := [d_is_integer, d_is_below, d_is_tuple_of, d_is_word, d_is_text, d_is_letters, d_is_delay, d_common_beginning, d_delay, d_distance, d_led_on, d_ahead_by, d_texts, d_in_order, d_sorted_words, d_shared_beginning, d_left_over, d_check_length, d__shared, d__check_word, d__check_delay, d__law_start, d__law_throw, d__law_pick, d__law_shuffled, d__law_drawn_word, d__law_ordered, d__law_all_texts, d__law_common, d__law_gap_of]
def fn1 : List DefD := [d__law_is_word, d__law_is_gap, d__law_drawn_words, d__law_common_right, d__law_delays_right, d__law_places_right, d__law_judged_right, d__law_listed_right, d_law]
def fn : List DefD := fn0 ++ fn1
def fa0 : List Fa := [.free "isinstance", .free "range", .free "str", .free "tuple", .free "len", .free "all", .free "bool", .free "repr", .free "set", .free "sorted", .free "list", .free "int", .free "abs", .free "max", .free "min", .free "zip", .glo "is_integer", .glo "is_below", .glo "is_tuple_of", .glo "is_word", .glo "is_text", .glo "is_letters", .glo "is_delay", .glo "common_beginning", .glo "delay", .glo "distance", .glo "led_on", .glo "ahead_by", .glo "texts", .glo "in_order"]
def fa1 : List Fa := [.glo "sorted_words", .glo "shared_beginning", .glo "left_over", .glo "check_length", .glo "_shared", .glo "_check_word", .glo "_check_delay", .glo "_law_start", .glo "_law_throw", .glo "_law_pick", .glo "_law_shuffled", .glo "_law_drawn_word", .glo "_law_ordered", .glo "_law_all_texts", .glo "_law_common", .glo "_law_gap_of", .glo "_law_is_word", .glo "_law_is_gap", .glo "_law_drawn_words", .glo "_law_common_right", .glo "_law_delays_right", .glo "_law_places_right", .glo "_law_judged_right", .glo "_law_listed_right", .glo "law", .str "_ALPHABET" "abcdefghijklmnopqrstuvwxyz", .int "_MOST_LETTERS" 4, .int "MAX_TEXT" 60]
def fa : List Fa := fa0 ++ fa1
def tf : List Defn := []
def exD (K : PySem.W.Frag) : Bool := decide ((tf.map fun p => (cT K p).2).Nodup)
def ex (K : PySem.W.Frag) : Bool := exD K
abbrev R : PySem.W.OpenRow := PySem.W.OpenLaw.row PySem.Challenge.rw_fewmarks_k01_words_and_delays
abbrev qv : Program := PySem.W.view R.prog [49]
def names0 : List PySem.Str := [(PySem.Str.ofString "is_integer"), (PySem.Str.ofString "is_below"), (PySem.Str.ofString "is_tuple_of"), (PySem.Str.ofString "MarkError"), (PySem.Str.ofString "InvalidText"), (PySem.Str.ofString "InvalidOperation"), (PySem.Str.ofString "InvalidNumber"), (PySem.Str.ofString "MAX_TEXT"), (PySem.Str.ofString "_ALPHABET"), (PySem.Str.ofString "_MOST_LETTERS"), (PySem.Str.ofString "is_word"), (PySem.Str.ofString "is_text"), (PySem.Str.ofString "is_letters"), (PySem.Str.ofString "is_delay"), (PySem.Str.ofString "common_beginning"), (PySem.Str.ofString "delay"), (PySem.Str.ofString "distance"), (PySem.Str.ofString "led_on"), (PySem.Str.ofString "ahead_by"), (PySem.Str.ofString "texts"), (PySem.Str.ofString "in_order"), (PySem.Str.ofString "sorted_words"), (PySem.Str.ofString "shared_beginning"), (PySem.Str.ofString "left_over"), (PySem.Str.ofString "check_length"), (PySem.Str.ofString "_shared"), (PySem.Str.ofString "_check_word"), (PySem.Str.ofString "_check_delay"), (PySem.Str.ofString "_law_start"), (PySem.Str.ofString "_law_throw")]
def names1 : List PySem.Str := [(PySem.Str.ofString "_law_pick"), (PySem.Str.ofString "_law_shuffled"), (PySem.Str.ofString "_law_drawn_word"), (PySem.Str.ofString "_law_ordered"), (PySem.Str.ofString "_law_all_texts"), (PySem.Str.ofString "_law_common"), (PySem.Str.ofString "_law_gap_of"), (PySem.Str.ofString "_law_is_word"), (PySem.Str.ofString "_law_is_gap"), (PySem.Str.ofString "_law_drawn_words"), (PySem.Str.ofString "_law_common_right"), (PySem.Str.ofString "_law_delays_right"), (PySem.Str.ofString "_law_places_right"), (PySem.Str.ofString "_law_judged_right"), (PySem.Str.ofString "_law_listed_right")]
def names : List PySem.Str := names0 ++ names1
def xs0 : List PySem.Str := [(PySem.Str.ofString "is_integer"), (PySem.Str.ofString "is_below"), (PySem.Str.ofString "is_tuple_of"), (PySem.Str.ofString "is_word"), (PySem.Str.ofString "is_text"), (PySem.Str.ofString "is_letters"), (PySem.Str.ofString "is_delay"), (PySem.Str.ofString "common_beginning"), (PySem.Str.ofString "delay"), (PySem.Str.ofString "distance"), (PySem.Str.ofString "led_on"), (PySem.Str.ofString "ahead_by"), (PySem.Str.ofString "texts"), (PySem.Str.ofString "in_order"), (PySem.Str.ofString "sorted_words"), (PySem.Str.ofString "shared_beginning"), (PySem.Str.ofString "left_over"), (PySem.Str.ofString "check_length"), (PySem.Str.ofString "_shared"), (PySem.Str.ofString "_check_word"), (PySem.Str.ofString "_check_delay"), (PySem.Str.ofString "_law_start"), (PySem.Str.ofString "_law_throw"), (PySem.Str.ofString "_law_pick"), (PySem.Str.ofString "_law_shuffled"), (PySem.Str.ofString "_law_drawn_word"), (PySem.Str.ofString "_law_ordered"), (PySem.Str.ofString "_law_all_texts"), (PySem.Str.ofString "_law_common"), (PySem.Str.ofString "_law_gap_of")]
def xs1 : List PySem.Str := [(PySem.Str.ofString "_law_is_word"), (PySem.Str.ofString "_law_is_gap"), (PySem.Str.ofString "_law_drawn_words"), (PySem.Str.ofString "_law_common_right"), (PySem.Str.ofString "_law_delays_right"), (PySem.Str.ofString "_law_places_right"), (PySem.Str.ofString "_law_judged_right"), (PySem.Str.ofString "_law_listed_right"), (PySem.Str.ofString "law")]
def xs : List PySem.Str := xs0 ++ xs1
def ms : List PySem.Str := []
abbrev hk : PySem.W.Hook := hookN xs ms fa fn tf ex
def ob (s : PySem.W.SharedT) : AlX := obsN xs ms fa fn tf ex (HandSHeadRun.getT s)
theorem ob_eq (s : PySem.W.SharedT) : ob s = hk.obs s.abs := obsN_eq (HandSHeadRun.getT_eq s)
theorem run (w : World) : HandSHeadRun.RunEq R qv hk ob 9000 names w := by
  intro os
  kernel_rfl
end K0H
-- K1Facts
set_option maxRecDepth 100000
set_option maxHeartbeats 4000000
namespace K0H
open PySem PySem.Spec PyProof.Rows L2 FM He K0
theorem all2 {α : Type} {l : List α} {f : α → Bool} (h : l.all f = true) : ∀ x ∈ l, f x = true := fun x hx => List.all_eq_true.mp h x hx
theorem facts {w : World} {K : PySem.W.Frag} {h : Heap} {mg : Str → Option Value} (X : K.In h) (G : h.Ns mainGlobals mg) (c : SaysX fa fn [] tf ex w h K) : TP K mg := by
  have d := c.t.d

  have gl : ∀ {x : Str} (i : Nat), fa[i]? = some (.glo x) → mg x = some (.ref (ga K x)) := fun i e => glo_ok X G (d.fact i e)
  have fr : ∀ {x : Str} (i : Nat), fa[i]? = some (.free x) → mg x = none := fun i e => free_ok X G (d.fact i e)
  exact {
    b_isinstance := fr 0 rfl
    b_range := fr 1 rfl
    b_str := fr 2 rfl
    b_tuple := fr 3 rfl
    b_len := fr 4 rfl
    b_all := fr 5 rfl
    b_bool := fr 6 rfl
    b_repr := fr 7 rfl
    b_set := fr 8 rfl
    b_sorted := fr 9 rfl
    b_list := fr 10 rfl
    b_int := fr 11 rfl
    b_abs := fr 12 rfl
    b_max := fr 13 rfl
    b_min := fr 14 rfl
    b_zip := fr 15 rfl
    g_is_integer := gl 16 rfl
    g_is_below := gl 17 rfl
    g_is_tuple_of := gl 18 rfl
    g_is_word := gl 19 rfl
    g_is_text := gl 20 rfl
    g_is_letters := gl 21 rfl
    g_is_delay := gl 22 rfl
    g_common_beginning := gl 23 rfl
    g_delay := gl 24 rfl
    g_distance := gl 25 rfl
    g_led_on := gl 26 rfl
    g_ahead_by := gl 27 rfl
    g_texts := gl 28 rfl
    g_in_order := gl 29 rfl
    g_sorted_words := gl 30 rfl
    g_shared_beginning := gl 31 rfl
    g_left_over := gl 32 rfl
    g_check_length := gl 33 rfl
    g__shared := gl 34 rfl
    g__check_word := gl 35 rfl
    g__check_delay := gl 36 rfl
    g__law_start := gl 37 rfl
    g__law_throw := gl 38 rfl
    g__law_pick := gl 39 rfl
    g__law_shuffled := gl 40 rfl
    g__law_drawn_word := gl 41 rfl
    g__law_ordered := gl 42 rfl
    g__law_all_texts := gl 43 rfl
    g__law_common := gl 44 rfl
    g__law_gap_of := gl 45 rfl
    g__law_is_word := gl 46 rfl
    g__law_is_gap := gl 47 rfl
    g__law_drawn_words := gl 48 rfl
    g__law_common_right := gl 49 rfl
    g__law_delays_right := gl 50 rfl
    g__law_places_right := gl 51 rfl
    g__law_judged_right := gl 52 rfl
    g__law_listed_right := gl 53 rfl
    c__ALPHABET := by
      obtain ⟨t, e⟩ := str_ok X G (d.fact 55 (f := .str "_ALPHABET" "abcdefghijklmnopqrstuvwxyz") rfl)
      exact ⟨_, e, ⟨t, rfl⟩⟩
    c__MOST_LETTERS := by
      obtain ⟨t, e⟩ := int_ok X G (d.fact 56 (f := .int "_MOST_LETTERS" 4) rfl)
      exact ⟨_, e, ⟨t, rfl⟩⟩
    c_MAX_TEXT := by
      obtain ⟨t, e⟩ := int_ok X G (d.fact 57 (f := .int "MAX_TEXT" 60) rfl)
      exact ⟨_, e, ⟨t, rfl⟩⟩
    f_is_integer := d.def_ 0 (d := d_is_integer) rfl
    f_is_below := d.def_ 1 (d := d_is_below) rfl
    f_is_tuple_of := d.def_ 2 (d := d_is_tuple_of) rfl
    f_is_word := d.def_ 3 (d := d_is_word) rfl
    f_is_text := d.def_ 4 (d := d_is_text) rfl
    f_is_letters := d.def_ 5 (d := d_is_letters) rfl
    f_is_delay := d.def_ 6 (d := d_is_delay) rfl
    f_common_beginning := d.def_ 7 (d := d_common_beginning) rfl
    f_delay := d.def_ 8 (d := d_delay) rfl
    f_distance := d.def_ 9 (d := d_distance) rfl
    f_led_on := d.def_ 10 (d := d_led_on) rfl
    f_ahead_by := d.def_ 11 (d := d_ahead_by) rfl
    f_texts := d.def_ 12 (d := d_texts) rfl
    f_in_order := d.def_ 13 (d := d_in_order) rfl
    f_sorted_words := d.def_ 14 (d := d_sorted_words) rfl
    f_shared_beginning := d.def_ 15 (d := d_shared_beginning) rfl
    f_left_over := d.def_ 16 (d := d_left_over) rfl
    f_check_length := d.def_ 17 (d := d_check_length) rfl
    f__shared := d.def_ 18 (d := d__shared) rfl
    f__check_word := d.def_ 19 (d := d__check_word) rfl
    f__check_delay := d.def_ 20 (d := d__check_delay) rfl
    f__law_start := d.def_ 21 (d := d__law_start) rfl
    f__law_throw := d.def_ 22 (d := d__law_throw) rfl
    f__law_pick := d.def_ 23 (d := d__law_pick) rfl
    f__law_shuffled := d.def_ 24 (d := d__law_shuffled) rfl
    f__law_drawn_word := d.def_ 25 (d := d__law_drawn_word) rfl
    f__law_ordered := d.def_ 26 (d := d__law_ordered) rfl
    f__law_all_texts := d.def_ 27 (d := d__law_all_texts) rfl
    f__law_common := d.def_ 28 (d := d__law_common) rfl
    f__law_gap_of := d.def_ 29 (d := d__law_gap_of) rfl
    f__law_is_word := d.def_ 30 (d := d__law_is_word) rfl
    f__law_is_gap := d.def_ 31 (d := d__law_is_gap) rfl
    f__law_drawn_words := d.def_ 32 (d := d__law_drawn_words) rfl
    f__law_common_right := d.def_ 33 (d := d__law_common_right) rfl
    f__law_delays_right := d.def_ 34 (d := d__law_delays_right) rfl
    f__law_places_right := d.def_ 35 (d := d__law_places_right) rfl
    f__law_judged_right := d.def_ 36 (d := d__law_judged_right) rfl
    f__law_listed_right := d.def_ 37 (d := d__law_listed_right) rfl
  }
theorem gives {w : World} {K : PySem.W.Frag} {h : Heap} {mg : Str → Option Value} {f : Addr} (P : Program) (X : K.In h) (G : h.Ns mainGlobals mg) (hf : mg ("law" : Str) = some (.ref f)) (c : SaysX fa fn [] tf ex w h K) :
    ∃ (fd : FuncData), (∀ (s : Shared) (u : Value), BindsTo s fd ⟨[u], []⟩ [("_law_script", u)]) ∧
      ∀ base : Heap, FnG P w K mg base 12 f fd ["_law_script"] (spLaw K) := by
  have d := c.t.d
  have T := facts X G c
  obtain ⟨fd, F⟩ : ∃ fd, FnP K "law" s_law (ga K "law") fd := d.def_ 38 (d := d_law) rfl
  have e := hf.symm.trans (glo_ok X G (d.fact 54 (f := .glo "law") rfl))
  cases e
  exact ⟨fd, fun s u => FunD.bindsA (ps := ["_law_script"]) F (fun _ _ _ _ _ _ us hl => match us, hl with | [_], _ => rfl) s [u] rfl, fun base => ok_law F T⟩
end K0H
-- K1End
open PySem PySem.W PySem.Calls PyProof.Rows
set_option maxRecDepth 100000 in
set_option maxHeartbeats 0 in
theorem PySem.Challenge.cw_fewmarks_k01_words_and_delays_holds : PySem.Challenge.rw_fewmarks_k01_words_and_delays.Holds := by
  w_on; o_law
  refine HandSHeadRun.head_any (r := OpenLaw.row PySem.Challenge.rw_fewmarks_k01_words_and_delays) (q := K0H.qv) (H := K0H.hk) (ob := K0H.ob) (M := 9000) (loose := K0H.names) (d := HandSHeadRun.topDef (OpenLaw.row PySem.Challenge.rw_fewmarks_k01_words_and_delays).prog 49) (kwd := []) K0H.ob_eq
    (by kernel_rfl) (fun s => by kernel_rfl) K0H.run (by kernel_rfl) (by kernel_rfl) (by kernel_rfl) (by rfl)
    (by first | assumption | decide +kernel) (by decide +kernel) ⟨rfl, rfl, rfl, rfl, rfl, by decide +kernel⟩ ?hw ?hc
  case hw => w_witness2
  case hc =>
    refine FM.walk_N (l := PySem.Challenge.rw_fewmarks_k01_words_and_delays) (n := 63) (k := 12) (x := "_law_script") rfl (by decide) (by kernel_rfl) ⟨rfl, by decide, by decide⟩ (by decide +kernel) ?F
    intro w mg fa h Y G hmg0
    obtain ⟨K, KX, c⟩ := Y
    have hmg : mg ("law" : PySem.Str) = some (.ref fa) := by
      have e : (HandSHeadRun.topDef (OpenLaw.row PySem.Challenge.rw_fewmarks_k01_words_and_delays).prog 49).name = ("law" : PySem.Str) := by kernel_rfl
      rw [← e]
      exact hmg0
    obtain ⟨fd, h4, h5⟩ := K0H.gives (PySem.Challenge.rw_fewmarks_k01_words_and_delays).prog KX G hmg c
    refine ⟨K, [], fd, K0.spLaw K, KX, fun p hp => (nomatch hp), fun p hp => (nomatch hp), fun p hp => (nomatch hp), h4, fun H a ns hl hT hS => ⟨a, ns, rfl, hS, fun _ => rfl⟩, fun base _ _ _ _ => h5 base⟩
