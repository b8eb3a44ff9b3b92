import PyProof.Rows.All
import Wide.All
import OpenK.AllK
import Wide.FinOn
import KE.KStateDown
import HandS.Base
import HandS.Call
import HandS.Defaults
import HandS.Words
import HandS.Style
import HandS.Head0
import HandS.Head1
import HandS.Head2
import HandS.HeadEnd
import HandS.HeadHook1
import HandS.HeadHook2
import HandS.ForMost
import HandS.ForExc
import HandS.IsInst
import HandS.ExcValue
import HandS.ExcInit
import HandS.ExcIs
import HandS.TryMany
import HandS.Wide
import KE.KExcInit
import KE.KExcIs
import HandS.HotCalls
import HandS.WideBits
import HandS.Evl
import HandS.Walk
import HandS.Text
import HandS.List
import HandS.Gcd
import HandS.Set
import HandS.Strs
import HandS.SetTxt0
import HandS.TupSets
import KE.SortData
import PyProof.FString5
import KE.KDictList
import HandS.Dict
import HandS.WordsDict
import HandS.RaiseMore
import HandS.Flow
import HandS.Iter
import HandS.Zip
import HandS.TupAny
import HandS.DictComp
import HandS.Property
import HandS.Deep
import HandS.SetBool
import HandS.Small
import PyProof.InstNe
import PyProof.Rows.PlainNe
import HandS.OwnEq
import OpenK.KOps
import OpenK.KMeth
import HandS.More
import HandS.ClsMeth
import KE.DataMinMax
import KE.KRevSl
import HandS.ListItems
import HandS.DictTup
import PySem.Challenge.RW_owedround_k18_whole_ways_rings_and_cuts
set_option Elab.async false
set_option linter.all false
set_option maxRecDepth 100000
set_option maxHeartbeats 4000000
/-! A head by one kernel run, whose Hook sees defs by any way (a property's getter too) and asks one more Bool. -/
namespace OwHd
open PySem PySem.Spec PyProof.Rows L2
/-- a def, the way to it, its keyword-only defaults -/
structure Df where
  way : PySem.W.Frag → Addr
  nm : Str
  qn : Str
  st : Stmt
  kw : List (Str × V)
abbrev Sight : Type := Option ((Str × Str × Arguments) × (FuncBody × Scope) × (Addr × List (Str × Addr) × Addr) × Value)
def sight (K : PySem.W.Frag) (a : Addr) : Sight := (K.lookup a).bind fun o => match o.data with
  | .func d => some ((d.name, d.qualname, d.params), (d.body, d.scope), (d.globals, d.closure, d.builtins), d.defaults)
  | _ => none
def Df.due (d : Df) : Sight := some ((d.nm, d.qn, defArgs d.st), (.stmts (defBody d.st), defScope d.st), (mainGlobals, [], builtinsNs), .none)
def Df.good (K : PySem.W.Frag) (d : Df) : Bool := PySem.W.keepIn K (.ref (d.way K)) && (match K.lookup (d.way K) with
  | some o => (match o.data with
    | .func u => PySem.W.codeIn K u.code d.qn && (d.kw.isEmpty || He.kwdB K u.kwdefaults d.kw)
    | _ => false)
  | none => false)
theorem Df.at_ {K : PySem.W.Frag} {d : Df} (e : sight K (d.way K) = d.due) (c : d.good K = true) : ∃ (oc : Value) (od : Option Addr) (kV doc pm : Value) (an : Option Addr) (cdv ct : Value) (osl : Array (Option Value)),
    K.lookup (d.way K) = some ⟨oc, od, .func (PySem.W.fnOf d.nm d.qn (defArgs d.st) (defBody d.st) (defScope d.st) .none kV doc pm an cdv ct), osl⟩ ∧ PySem.W.codeIn K cdv d.qn = true ∧ PySem.W.keepIn K (.ref (d.way K)) = true ∧ (d.kw = [] ∨ KwdV K kV d.kw) := by
  unfold Df.good at c
  rw [Bool.and_eq_true] at c
  obtain ⟨kp, c⟩ := c
  unfold sight Df.due at e
  cases q : K.lookup (d.way K) with
  | none =>
    rw [q] at e
    exact nomatch e
  | some o =>
    obtain ⟨oc, od, dt, osl⟩ := o
    rw [q] at e c
    cases dt with
    | func fd =>
      obtain ⟨a1, a2, a3, a4, a5, a6, a7, a8, a9, a10, a11, a12, a13, a14, a15⟩ := fd
      simp only [Option.bind_some, Option.some.injEq, Prod.mk.injEq] at e
      obtain ⟨⟨h1, h2, h3⟩, ⟨h4, h5⟩, ⟨h6, h7, h8⟩, h9⟩ := e
      subst h1 h2 h3 h4 h5 h6 h7 h8 h9
      simp only [Bool.and_eq_true, Bool.or_eq_true] at c
      obtain ⟨c1, c2⟩ := c
      refine ⟨oc, od, a9, a10, a11, a12, a13, a14, osl, rfl, c1, kp, ?_⟩
      rcases c2 with c2 | c2
      · exact .inl (List.isEmpty_iff.mp c2)
      · exact .inr (He.kwdB_ok c2)
    | _ => exact nomatch e
abbrev Al : Type := List Sight × Bool
def seen (fn : List Df) (ex : PySem.W.Frag → Bool) (K : PySem.W.Frag) : Al := (fn.map fun d => sight K (d.way K), (fn.all fun d => d.good K) && ex K)
def due (fn : List Df) : Al := (fn.map Df.due, true)
def Says (fn : List Df) (ex : PySem.W.Frag → Bool) (K : PySem.W.Frag) : Prop := seen fn ex K = due fn
def seenAt (az : (Addr → Option Obj) → List Addr) (fn : List Df) (ex : PySem.W.Frag → Bool) (g : Addr → Option Obj) : Al := seen fn ex (He.frG g (az g))
def hook (az : (Addr → Option Obj) → List Addr) (fn : List Df) (ex : PySem.W.Frag → Bool) : PySem.W.Hook where
  α := Al
  obs := fun s => seenAt az fn ex s.heap.get?
  val := fun _ => due fn
  says := fun _ h => ∃ K : PySem.W.Frag, K.In h ∧ Says fn ex K
  of := fun _ s e => ⟨He.frG s.heap.get? (az s.heap.get?), He.frG_in, e⟩
  keeps := fun _ _ _ z k => z.elim fun K y => ⟨K, y.1.keeps k, y.2⟩
theorem seenAt_eq {az : (Addr → Option Obj) → List Addr} {fn : List Df} {ex : PySem.W.Frag → Bool} {g : Addr → Option Obj} {s : Shared} (h : ∀ a, g a = s.heap.get? a) : seenAt az fn ex g = (hook az fn ex).obs s := by
  rw [show g = s.heap.get? from funext h]
  rfl
section
variable {fn : List Df} {ex : PySem.W.Frag → Bool} {K : PySem.W.Frag}
theorem Says.ex_ (c : Says fn ex K) : ex K = true := by
  have z : ((fn.all fun d => d.good K) && ex K) = true := congrArg Prod.snd c
  rw [Bool.and_eq_true] at z
  exact z.2
theorem Says.df (c : Says fn ex K) (i : Nat) {d : Df} (h : fn[i]? = some d) : sight K (d.way K) = d.due ∧ d.good K = true := by
  have z : ((fn.all fun d => d.good K) && ex K) = true := congrArg Prod.snd c
  rw [Bool.and_eq_true] at z
  have y : (fn.map fun d => sight K (d.way K)) = fn.map Df.due := congrArg Prod.fst c
  have x : (fn.map fun d => sight K (d.way K))[i]? = (fn.map Df.due)[i]? := by rw [y]
  rw [List.getElem?_map, List.getElem?_map, h] at x
  exact ⟨Option.some.inj x, List.all_eq_true.mp z.1 d (List.mem_of_getElem? h)⟩
end
/-! ways and tests -/
def glo (x : Str) (K : PySem.W.Frag) : Addr := He.ga K x
def met (C m : Str) (K : PySem.W.Frag) : Addr := He.ma K (He.ga K C) m
def recs (C m : Str) (K : PySem.W.Frag) : List Value := (PySem.W.recIn K (met C m K) "property").getD []
def get_ (C m : Str) (K : PySem.W.Frag) : Addr := match recs C m K with
  | .ref f :: _ => f
  | _ => 0
def intB (K : PySem.W.Frag) (x : Str) (i : Int) : Bool := match PySem.W.nsIn K mainGlobals x with
  | some (some (.int j _)) => j == i
  | _ => false
theorem intB_ok {K : PySem.W.Frag} {x : Str} {i : Int} (h : intB K x i = true) : ∃ t, PySem.W.nsIn K mainGlobals x = some (some (.int i t)) := by
  unfold intB at h
  split at h
  · rename_i j t e
    rw [e]
    exact ⟨t, by rw [eq_of_beq h]⟩
  · exact nomatch h
end OwHd

/-! What a head's Hook looks at, found by names: no address stands in the text. -/
namespace OwHd
open PySem PySem.Spec PyProof.Rows L2
/-- what an object names, as far as defs and classes want it -/
def refsF (o : Obj) : List Addr := match o.data with
  | .func fd => He.refV fd.code ++ He.refV fd.kwdefaults
  | .cls cd => cd.ns :: cd.mro.flatMap He.refV
  | .fields vs => vs.toList.flatMap He.refV
  | _ => []
/-- the values of a dict -/
def refsN (o : Obj) : List Addr := match o.data with
  | .dict es _ => es.toList.flatMap fun e => He.refV e.val
  | _ => []
def wantF (g : Addr → Option Obj) (r : Obj → List Addr) (as : List Addr) : List Addr := as.flatMap fun a => match g a with
  | some o => r o
  | none => []
/-- the values of some names of a dict -/
def pick (ns : List Str) (o : Obj) : List Addr := match o.data with
  | .dict es _ => es.toList.flatMap fun e => match e.key with
    | .str s _ => if ns.contains s then He.refV e.val else []
    | _ => []
  | _ => []
/-- gs: the names of defs and classes of the module; ms: of methods -/
def azN (gs ms : List Str) (g : Addr → Option Obj) : List Addr :=
  let a1 := wantF g (pick gs) [mainGlobals]
  let a2 := wantF g refsF a1
  let a3 := wantF g (pick ms) a2
  let a4 := wantF g refsF a3
  let a5 := wantF g refsF a4
  mainGlobals :: cStatics :: (a1 ++ (a2 ++ (a3 ++ (a4 ++ a5))))
/-! a classmethod's def -/
def recsC (C m : Str) (K : PySem.W.Frag) : List Value := (PySem.W.recIn K (met C m K) "classmethod").getD []
def getc (C m : Str) (K : PySem.W.Frag) : Addr := match recsC C m K with
  | .ref f :: _ => f
  | _ => 0
def kwNone (K : PySem.W.Frag) (f : Addr) : Bool := match K.lookup f with
  | some ⟨_, _, .func fd, _⟩ => decide (fd.kwdefaults = .none)
  | _ => false
theorem kwNone_ok {K : PySem.W.Frag} {f : Addr} {oc : Value} {od : Option Addr} {fd : FuncData} {osl : Array (Option Value)} (h : kwNone K f = true) (e : K.lookup f = some ⟨oc, od, .func fd, osl⟩) : fd.kwdefaults = .none := by
  unfold kwNone at h
  rw [e] at h
  exact of_decide_eq_true h
def cmB (K : PySem.W.Frag) (C p : Addr) (m : Str) : Bool := match PySem.W.findCls K (.ref C) (.type "type") m with
  | some (.get g a .none c) => decide (g = .builtin "classmethod.__get__") && (decide (a = .ref p) && decide (c = .ref C))
  | _ => false
theorem cmB_ok {K : PySem.W.Frag} {C p : Addr} {m : Str} (h : cmB K C p m = true) : PySem.W.findCls K (.ref C) (.type "type") m = some (.get (.builtin "classmethod.__get__") (.ref p) .none (.ref C)) := by
  unfold cmB at h
  split at h
  · rename_i g a c e
    simp only [Bool.and_eq_true, decide_eq_true_eq] at h
    obtain ⟨rfl, rfl, rfl⟩ := h
    exact e
  · exact nomatch h
end OwHd

/-! Own error classes whose __init__ keeps one value, over any built-in base: made, kept, read, raised. -/
namespace OwF
open PySem PySem.F
theorem storeKey : StoreFacts "KeyError" [.type "KeyError", .type "LookupError", .type "Exception", .type "BaseException", .type "object"] "object.__setattr__" "object" :=
  { mro := by kernel_rfl, entry := entry_object_sa, kind := by decide +kernel, split := by decide +kernel, hasOwner := by decide +kernel, args := (fun _ _ _ => by (unfold argsOk; kernel_rfl)), passes := (fun _ => by kernel_rfl)
    slot := .of (owner := "object") (n := "__setattr__") (by (rw [typeLookup_type, builtinLookup_eq_fast]; kernel_rfl)) (by decide +kernel) (by decide +kernel) (by decide +kernel) (by (first | exact .inl (by decide +kernel) | exact .inr (by decide +kernel))) (by (rw [isSubtype_type]; kernel_rfl)) }
end OwF
namespace OwX
open PySem PySem.W PySem.Calls PyProof.Rows PySem.HandSPX
/-- what the tail of an own class's order of bases must have, beside the facts of the base that makes its instances -/
structure Tl (bm : List Value) (B : String) : Prop where
  b : bm.contains (.type B) = true
  a : bm.contains (.type "AttributeError") = false
  n : bm.contains (.type "NameError") = false
section
variable {M : Model} {prog : Program} {w : World} {A : Around} {E : Value → Shared → Prop} {R : Result → Shared → Prop} {h : Heap} {g : Array GenState} {d : Drawn} {t : Nat} {os : OsState}
variable {nm q : Str} {C N : Addr} {bs bm bmB : List Value} {hdct : Bool} {sn : List Str} {sub : List Value} {ab : Bool} {col : Option Bool} {dd : Option Addr} {k0 k1 k2 k3 k5 : Option Value} {B newId initId : String}
theorem tl_check (F : ExcBaseFacts B newId initId bmB) (T : Tl bm B) {rest : List Value} {Q : Unit → Shared → Prop} (hC : h.get? C = some (excClassObj nm q C N bs bm hdct sn sub ab col dd k0 k1 k2 k3 k5 newId)) (hq : Q () ⟨h, g, d, t, os⟩) :
    wpAny M A (checkBuiltinCall newId ⟨.ref C :: rest, []⟩) Q E ⟨h, g, d, t, os⟩ := by
  have c1 : (Value.ref C :: bm).contains (.type B) = true := by (rw [List.contains_cons, T.b, Bool.or_true])
  have c2 := F.noStar
  simp only [checkBuiltinCall, F.newKind, F.newSplit, F.newRow]
  repeat (first | (refine wpAny_loadPart_at hC ?_) | (refine wpAny_isSubtype_exc hC ?_; (rw [c1])) | (refine wpAny_staticBase_exc hC ?_) | (refine wpAny_madeBy_exc hC ?_) | (simp only [bne_self_eq_false, Bool.false_eq_true, if_false]) | wp_step)
  exact hq
theorem tl_new (F : ExcBaseFacts B newId initId bmB) (T : Tl bm B) {rest : List Value} (hC : h.get? C = some (excClassObj nm q C N bs bm hdct sn sub ab col dd k0 k1 k2 k3 k5 newId)) (hz : rest.length ≤ sizeLine)
    (hq : R (.ok (.ret (.ref (h.objs.size + 1)))) ⟨(h.push { cls := .type "tuple", data := .seq rest.toArray }).push { cls := .ref C, data := .fields #[.ref h.objs.size, .none, .none, .none, .bool false, .none] }, g, d, t, os⟩) :
    codeAny (model prog w) A (.builtin newId ⟨.ref C :: rest, []⟩) R ⟨h, g, d, t, os⟩ := by
  have c0 := F.ends
  have c1 : (Value.ref C :: bm).contains (.type B) = true := by (rw [List.contains_cons, T.b, Bool.or_true])
  have c2 : (Value.ref C :: bm).contains (.type "AttributeError") = false := by (rw [List.contains_cons, T.a] <;> rfl)
  have c3 : (Value.ref C :: bm).contains (.type "NameError") = false := by (rw [List.contains_cons, T.n] <;> rfl)
  refine codeAny_builtinAt F.entry ?_
  unfold Builtin.«BaseException.__new__»
  refine PySem.wpAt_bind ?_
  show PySem.wpAt _ _ _ (stack >>= _) _ _ _
  refine PySem.wpAt_bind (PySem.wpAt_stack fun p below => PySem.wpAt_of_wpAny ?_)
  wp_walk
  refine PySem.wpAt_of_wpAny ?_
  rw [F.owner]
  repeat (first | (with_reducible refine wpAny_madeHere_exc F.canon hC ?_) | (with_reducible refine wpAny_loadPart_at hC ?_) | (with_reducible refine wpAny_isSubtype_exc hC ?_; first | (rw [c1]) | (rw [c2]) | (rw [c3])) | wp_step)
  show R _ _
  rw [Heap.size_push]
  exact hq
theorem tl_type (F : ExcBaseFacts B newId initId bmB) (T : Tl bm B) {rest : List Value} {fI : Addr} {Q : Fin → Shared → Prop} (hC : h.get? C = some (excClassObj nm q C N bs bm hdct sn sub ab col dd k0 k1 k2 k3 k5 newId))
    (hi : W.Looks (model prog w) h (typeLookup (.ref C) "__init__") (some (.ref fI))) (hb : ∀ self, W.Looks (model prog w) h (bindSpecial (.ref fI) self) (.ref fI, [self])) (hz : rest.length ≤ sizeLine)
    (hq : codeAny (model prog w) A (.call (.ref fI) ⟨.ref (h.objs.size + 1) :: rest, []⟩) (fun r s' => match r with | .ok (.ret v) => v = .none ∧ Q (.done (.ret (.ref (h.objs.size + 1)))) s' | .ok _ => False | .error e => E e s')
      ⟨(h.push (W.kdv_tup rest)).push (excO C h.objs.size), g, d, t, os⟩) : wpAny (model prog w) A (Builtin.«type.__call__» ⟨.ref C :: rest, []⟩) Q E ⟨h, g, d, t, os⟩ := by
  repeat (first | (with_reducible refine wpAny_loadPart_at hC ?_) | (with_reducible refine wpAny_madeBy_exc hC ?_) | wp_step)
  refine codeAny_call_builtin_code (Code.quiet_builtin _ F.quiet) (tl_check F T hC (tl_new F T hC hz ?_))
  show wpAny _ _ _ _ _ _
  have kp : ∀ b o, h.get? b = some o → ((h.push (W.kdv_tup rest)).push (excO C h.objs.size)).get? b = some o := fun _ _ e => Heap.get?_push_of_some _ (Heap.get?_push_of_some _ e)
  have hC₁ := kp _ _ hC
  have hnew : ((h.push (W.kdv_tup rest)).push (excO C h.objs.size)).get? (h.objs.size + 1) = some (excO C h.objs.size) := by heap_get
  have c4 : (Value.ref C :: bm).contains (.ref C) = true := by simp
  have i1 := hi.keeps kp
  have b1 := (hb (.ref (h.objs.size + 1))).keeps kp
  unfold isInstance
  repeat (first | (with_reducible refine wpAny_loadPart_at hnew ?_) | (with_reducible refine wpAny_isSubtype_exc hC₁ ?_; (rw [c4])) | wp_step)
  show wpAny _ _ (typeLookup (.ref C) _) _ _ _
  refine i1.at (wpAny_holding (wpAny_bind (b1.at (wpAny_bind (wpAny_call (codeAny_mono hq fun r s' z => ?_))))))
  rcases r with e | (v | _ | _ | _) <;> first | exact z | exact z.elim | skip
  obtain ⟨e1, z⟩ := z
  subst e1
  first | exact wpAny_pure (wpAny_pure z) | (wp_walk; exact z)
theorem tl_call (F : ExcBaseFacts B newId initId bmB) (T : Tl bm B) {rest : List Value} {fI : Addr} (hC : h.get? C = some (excClassObj nm q C N bs bm hdct sn sub ab col dd k0 k1 k2 k3 k5 newId))
    (hi : W.Looks (model prog w) h (typeLookup (.ref C) "__init__") (some (.ref fI))) (hb : ∀ self, W.Looks (model prog w) h (bindSpecial (.ref fI) self) (.ref fI, [self])) (hz : rest.length ≤ sizeLine)
    (hq : codeAny (model prog w) (A.under (.builtin "type.__call__" ⟨.ref C :: rest, []⟩)) (.call (.ref fI) ⟨.ref (h.objs.size + 1) :: rest, []⟩) (W.InitBack (h.objs.size + 1) R) ⟨(h.push (W.kdv_tup rest)).push (excO C h.objs.size), g, d, t, os⟩) :
    codeAny (model prog w) A (.call (.ref C) ⟨rest, []⟩) R ⟨h, g, d, t, os⟩ := by
  have t1 := tc_lookup
  have t2 := tc_bind (.ref C)
  have t3 : (⟨h, g, d, t, os⟩ : Shared).TypeIs (.ref C) "type" := ⟨_, hC, rfl⟩
  refine codeAny_of_tree ?_
  show wpAny _ _ (callAny (.ref C) _) _ _ _
  repeat (any_goals (first | assumption | (with_reducible refine wpAny_loadPart_at hC ?_) | wp_step))
  refine ⟨rfl, codeAny_call_builtin_at (Code.quiet_builtin _ (by decide +kernel)) entry_typeCall (wpAny_check_type_call_sub hC (tl_type F T hC hi hb hz ?_))⟩
  refine codeAny_mono hq fun r s' z => ?_
  rcases r with e | (v | _ | _ | _) <;> exact z
end
section
variable {prog : Program} {w : World} {A : Around} {E : Value → Shared → Prop} {R : Result → Shared → Prop} {hp : Heap} {g : Array GenState} {d : Drawn} {t : Nat} {os : OsState}
/-- the first store into an own error, whatever its built-in base -/
theorem store_first {K : W.Frag} {B : String} {bmB : List Value} {name : Str} {tk : Tok} {v : Value} {x C t0 : Addr} (SF : StoreFacts B bmB "object.__setattr__" "object")
    (X : K.In hp) (hx : hp.get? x = some (excO C t0)) (ho : excOver K C bmB = true) (ht : takerIn K C name = some none) (hh : hasDictIn K C = true)
    (hq : ∀ h' tk' dx, (∀ b o, b ≠ x → hp.get? b = some o → h'.get? b = some o) → hp.objs.size ≤ dx → dx ≠ x → h'.get? x = some { cls := .ref C, dict := some dx, data := .fields #[.ref t0, .none, .none, .none, .bool false, .none] } →
      h'.Ns1 dx (fun y => if y = name then some v else none) → R (.ok (.ret .none)) ⟨h', g, d, tk', os⟩) :
    codeAny (model prog w) A (.call (.builtin "object.__setattr__") ⟨[.ref x, .str name tk, v], []⟩) R ⟨hp, g, d, t, os⟩ := by
  have hxs : x ≠ hp.objs.size := Nat.ne_of_lt (Heap.lt_size hx)
  refine osa_openX (s := ⟨hp, g, d, t, os⟩) (od := none) SF X ⟨hx, rfl, rfl, trivial⟩ ho ht fun b => ?_
  obtain ⟨cd, hc, hd'⟩ := any_some hh
  refine wpAny_bind (wpAny_pure (wpAny_bind (instanceDict_exc (s := ⟨hp, g, d, t, os⟩) (c2 := .none) hx (looks_clsIn X hc) hd' ?_)))
  show wpAny _ _ (Builtin.ObjectAttr.storeInDict hp.objs.size (.str name tk) name v) _ _ _
  refine store_in_new (hp := (hp.push (dictOf [] 0)).update x fun o => { o with dict := some hp.objs.size }) ⟨_, #[], _, (Heap.get?_update_ne _ _ _ _ hxs.symm).trans (Heap.get?_push_at rfl rfl), rfl, fun e he => absurd he (by simp), fun _ => rfl⟩ ?_
  intro h' tk' hn' hs
  have hx₁ : (hp.push (dictOf [] 0)).get? x = some (excO C t0) := Heap.get?_push_of_some _ hx
  refine hq h' tk' hp.objs.size (fun b o hb ho => (hs.2 b (Nat.ne_of_lt (Heap.lt_size ho))).trans ((Heap.get?_update_ne _ _ _ _ hb).trans (Heap.get?_push_of_some _ ho))) (Nat.le_refl _) hxs.symm ?_ hn'
  exact (hs.2 x hxs).trans (Heap.get?_update_self _ hx₁ rfl)
end
end OwX

namespace OwX
open PySem PySem.W PySem.Calls PyProof.Rows PySem.HandSPX
/-! ### the text of such an __init__: def __init__(self, f): self.f = f -/
def iA (f : Str) (p1 p2 : Pos) : Arguments := { posonlyargs := [], args := [{ arg := "self", annotation := none, pos := p1 }, { arg := f, annotation := none, pos := p2 }], vararg := none, kwonlyargs := [], kw_defaults := [], kwarg := none, defaults := [] }
def iB (f : Str) (q1 q2 q3 q4 : Pos) : List Stmt := [.Assign [.Attribute (.Name "self" q1) f q2] (.Name f q3) q4]
def iS (f : Str) : Scope := { kind := .function, names := [(PySem.Str.ofString "self", .local), (f, .local)], isGenerator := false, isCoroutine := false, more := [] }
/-- all that is asked of the class at C and its __init__ at fI, as one test -/
def exChk (K : Frag) (C fI : Addr) (f : Str) (bmB : List Value) (newId : String) : Bool :=
  excInitIn K C bmB newId && (excOver K C bmB && (decide (takerIn K C f = some none) && (hasDictIn K C && (decide (findIn K (.ref C) "__setattr__" = some (some (.builtin "object.__setattr__"))) &&
  (decide (findIn K (.ref C) "__getattribute__" = some (some (.builtin "BaseException.__getattribute__"))) && (decide (findIn K (.ref C) "__getattr__" = some none) && (decide (findIn K (.ref C) f = some none) &&
  (decide (findIn K (.ref C) "__init__" = some (some (.ref fI))) && (decide (typeIn K (.ref fI) = some (.type "function")) && (keepIn K (.ref C) && (decide (subIn K (.ref C) (.type "BaseException") = some true) &&
  (decide (typeIn K (.ref C) = some (.type "type")) && (decide (findIn K (.ref C) "__class__" = some (some (.builtin "object.__class__"))) && (decide (specialIn K (.builtin "object.__class__") "__get__" = some (some (.builtin "getset_descriptor.__get__"))) &&
  (decide (takesIn K (.builtin "object.__class__") = some true) && (decide (mroIn K C (.type "object") = some true) && (clsIn K C).isSome))))))))))))))))
structure ExC (K : Frag) (C fI : Addr) (f : Str) (bmB : List Value) (newId : String) : Prop where
  ini : excInitIn K C bmB newId = true
  ovr : excOver K C bmB = true
  tk : takerIn K C f = some none
  hd : hasDictIn K C = true
  sa : findIn K (.ref C) "__setattr__" = some (some (.builtin "object.__setattr__"))
  ga : findIn K (.ref C) "__getattribute__" = some (some (.builtin "BaseException.__getattribute__"))
  gg : findIn K (.ref C) "__getattr__" = some none
  noN : findIn K (.ref C) f = some none
  iC : findIn K (.ref C) "__init__" = some (some (.ref fI))
  tI : typeIn K (.ref fI) = some (.type "function")
  kC : keepIn K (.ref C) = true
  exC : subIn K (.ref C) (.type "BaseException") = some true
  tyC : typeIn K (.ref C) = some (.type "type")
  cc : findIn K (.ref C) "__class__" = some (some (.builtin "object.__class__"))
  cg : specialIn K (.builtin "object.__class__") "__get__" = some (some (.builtin "getset_descriptor.__get__"))
  ct : takesIn K (.builtin "object.__class__") = some true
  mo : mroIn K C (.type "object") = some true
  cs : (clsIn K C).isSome = true
theorem exChk_ok {K : Frag} {C fI : Addr} {f : Str} {bmB : List Value} {newId : String} (h : exChk K C fI f bmB newId = true) : ExC K C fI f bmB newId := by
  unfold exChk at h
  simp only [Bool.and_eq_true, decide_eq_true_eq] at h
  obtain ⟨h1, h2, h3, h4, h5, h6, h7, h8, h9, h10, h11, h12, h13, h14, h15, h16, h17, h18⟩ := h
  exact ⟨h1, h2, h3, h4, h5, h6, h7, h8, h9, h10, h11, h12, h13, h14, h15, h16, h17, h18⟩
/-- how its two arguments are bound: rfl at a written name -/
def BindF (f : Str) : Prop := ∀ (qual : Str) (p1 p2 q1 q2 q3 q4 : Pos) (doc pm cdv ct u v : Value) (an : Option Addr), bindArgs (fnOf "__init__" qual (iA f p1 p2) (iB f q1 q2 q3 q4) (iS f) .none .none doc pm an cdv ct) ⟨[u, v], []⟩ = pure [(("self" : Str), u), (f, v)]
/-- an own error class with such an __init__ -/
structure ETxt (K : Frag) (mg : Str → Option Value) (nm qual : Str) (C fI : Addr) (f : Str) : Prop where
  gC : mg nm = some (.ref C)
  fs : (f == ("self" : Str)) = false
  fd : (f == ("__debug__" : Str)) = false
  bi : BindF f
  ba : ∃ (B B' newId initId : String) (bmN bmB : List Value), ExcBaseFacts B newId initId bmN ∧ StoreFacts B' bmB "object.__setattr__" "object" ∧ Tl bmB B ∧ ExC K C fI f bmB newId
  fn : ∃ (oc : Value) (od : Option Addr) (doc pm : Value) (an : Option Addr) (cdv ct : Value) (osl : Array (Option Value)) (p1 p2 q1 q2 q3 q4 : Pos),
    K.lookup fI = some ⟨oc, od, .func (fnOf "__init__" qual (iA f p1 p2) (iB f q1 q2 q3 q4) (iS f) .none .none doc pm an cdv ct), osl⟩ ∧ codeIn K cdv qual = true
theorem one_size (v : Value) : [v].length ≤ sizeLine := by
  rw [sizeLine_eq]
  exact (by decide : 1 ≤ 16777216)
theorem ldC {M : Model} {s : Shared} {name : Str} {scope : Scope} {L a : Addr} {cd : Value} {m : Str → Option Value} {x : Str} {pos : Pos} {v : Value} {Q : Value → Shared → Prop} {A : Around} {E : Value → Shared → Prop} (hn : s.heap.Ns L m) (hv : m x = some v) (h : Q v s)
    (hk : scope.kind = .function := by rfl) (hl : (envOfC name scope L a cd).kindOf x = some .local := by rfl) (hd : (x == ("__debug__" : Str)) = false := by decide) :
    wpAny M A (eval (.Name x pos) (envOfC name scope L a cd)) Q E s := wpAny_Name (wpAny_loadName_local hk hl hn hv h) hd
/-- what __init__ leaves of a fresh exception at x -/
structure InitEnd (h h' : Heap) (x C dx t1 : Addr) (f : Str) (v : Value) : Prop where
  keep : ∀ b o, b ≠ x → h.get? b = some o → h'.get? b = some o
  obj : h'.get? x = some { cls := .ref C, dict := some dx, data := .fields #[.ref t1, .none, .none, .none, .bool false, .none] }
  dbig : h.objs.size ≤ dx
  dne : dx ≠ x
  ns : h'.Ns1 dx (fun y => if y = f then some v else none)
structure OwnMade (h h' : Heap) (e C d t1 : Addr) (f : Str) (v : Value) : Prop where
  keep : ∀ b o, h.get? b = some o → h'.get? b = some o
  new : h.objs.size ≤ e
  obj : h'.get? e = some { cls := .ref C, dict := some d, data := .fields #[.ref t1, .none, .none, .none, .bool false, .none] }
  dbig : h.objs.size ≤ d
  dne : d ≠ e
  ns : h'.Ns1 d (fun y => if y = f then some v else none)
section
variable {prog : Program} {w : World} {A : Around} {E : Value → Shared → Prop} {R : Result → Shared → Prop} {s : Shared} {K : Frag} {mg : Str → Option Value} {nm qual : Str} {C fI : Addr} {f : Str}
theorem ex_init (T : ETxt K mg nm qual C fI f) {x t0 : Addr} {v : Value} (X : K.In s.heap) (hlim : s.heap.NoLimit) (hx : s.heap.get? x = some (excO C t0)) (hroom : A.depth < recursionLimit)
    (hq : ∀ h' tk dx, InitEnd s.heap h' x C dx t0 f v → R (.ok (.ret .none)) { s with heap := h', toks := tk }) :
    codeAny (model prog w) A (.call (.ref fI) ⟨[.ref x, v], []⟩) R s := by
  obtain ⟨oc, od, doc, pm, an, cdv, ct, osl, p1, p2, q1, q2, q3, q4, ho, hcd⟩ := T.fn
  obtain ⟨B, B', newId, initId, bmN, bmB, FB, SF, TB, EC⟩ := T.ba
  have hfs := T.fs
  have hl2 : List.lookup f ([(PySem.Str.ofString "self", .local), (f, .local)] : List (Str × NameKind)) = some .local := by simp [List.lookup, hfs]
  refine Att.call_fn (binds := [("self", .ref x), (f, v)]) X hlim ho hcd hroom (BindsTo.of_eq (T.bi _ _ _ _ _ _ _ _ _ _ _ _ _ _)) ?_ (fun s₁ IC => ?_) rfl rfl rfl
  · simp [iS, List.lookup, hfs]
  obtain ⟨h₁, tk₁, rfl⟩ := IC.toInCall.same
  have k : ∀ b o, s.heap.get? b = some o → h₁.get? b = some o := IC.toInCall.keep
  have hn := IC.toInCall.ns
  have X₁ : K.In h₁ := X.keeps k
  have hx₁ := k _ _ hx
  have kf : (envOfC qual (iS f) s.heap.objs.size fI cdv).kindOf f = some .local := hl2
  show wpAny _ _ (execs _ _) _ _ _
  refine wpAny_execs_cons (plainObj_wpAny_Assign_Attribute ?_)
  refine ldC (v := v) hn ?_ (ldC (v := .ref x) hn ?_ ?_) rfl kf T.fd
  · simp [bindL, kf]
  · have ks : (envOfC qual (iS f) s.heap.objs.size fI cdv).kindOf "self" = some .local := rfl
    have hsf : (("self" : Str) == f) = false := by
      rw [← hfs]
      exact Bool.eq_iff_iff.mpr ⟨fun z => beq_iff_eq.mpr (beq_iff_eq.mp z).symm, fun z => beq_iff_eq.mpr (beq_iff_eq.mp z).symm⟩
    have hsn : ¬ ("self" : Str) = f := fun z => by rw [beq_iff_eq.mpr z] at hsf; cases hsf
    simp [bindL, kf, ks, hsn]
  refine set_plain X₁ (ox := excO C t0) (od := none) ⟨hx₁, rfl, rfl, trivial⟩ EC.sa ?_
  refine store_first SF X₁ hx₁ EC.ovr EC.tk EC.hd (fun h₃ tk₃ dx k₃ dn dne hx₃ hn₃ => ?_)
  show wpAny _ _ (execs _ _) _ _ _
  have z : s.heap.objs.size < h₁.objs.size := hn.lt
  exact wpAny_execs_nil (hq h₃ tk₃ dx ⟨fun b o hb e => k₃ b o hb (k b o e), hx₃, Nat.le_of_lt (Nat.lt_of_lt_of_le z dn), dne, hn₃⟩)
end
end OwX

namespace OwW
open PySem L2
def top (i : Nat) : Stmt := PySem.Challenge.pw_owedround_k18_whole_ways_rings_and_cuts.main.body.getD i (.Pass ⟨0, 0, 0, 0⟩)
def mth (i j : Nat) : Stmt := match top i with
  | .ClassDef _ _ _ body _ _ _ _ _ _ _ => body.getD j (.Pass ⟨0, 0, 0, 0⟩)
  | st => st
end OwW

namespace OwW
open PySem PyProof.Rows L2 L2H OwX
def clsB0 (K : PySem.W.Frag) (C_Web f1 f2 f3 f4 f13 f14 f15 f16 f17 f18 f19 f26 : Addr) : Bool :=
  decide (PySem.W.nsIn K mainGlobals "law" = some (some (.ref f1))) && (decide (PySem.W.nsIn K mainGlobals "len" = some none) && (decide (PySem.W.nsIn K mainGlobals "int" = some none) && (decide (PySem.W.nsIn K mainGlobals "max" = some none) && (decide (PySem.W.nsIn K mainGlobals "min" = some none) && (decide (PySem.W.nsIn K mainGlobals "abs" = some none) && (decide (PySem.W.nsIn K mainGlobals "range" = some none) && (decide (PySem.W.nsIn K mainGlobals "_law_dice" = some (some (.ref f2))) && (PySem.W.keepIn K (.ref f2) && (decide (PySem.W.nsIn K mainGlobals "_law_mixed" = some (some (.ref f13))) && (decide (PySem.W.nsIn K mainGlobals "_law_roll" = some (some (.ref f15))) && (decide (PySem.W.nsIn K mainGlobals "isinstance" = some none) && (decide (PySem.W.nsIn K mainGlobals "str" = some none) && (decide (PySem.W.nsIn K mainGlobals "list" = some none) && (decide (PySem.W.nsIn K mainGlobals "_law_names" = some (some (.ref f14))) && (decide (PySem.W.nsIn K mainGlobals "_law_tie" = some (some (.ref f16))) && (decide (PySem.W.nsIn K mainGlobals "sorted" = some none) && (decide (PySem.W.nsIn K mainGlobals "set" = some none) && (decide (PySem.W.nsIn K mainGlobals "tuple" = some none) && (decide (PySem.W.nsIn K mainGlobals "_law_pairs" = some (some (.ref f17))) && (decide (PySem.W.nsIn K mainGlobals "_law_plain" = some (some (.ref f18))) && (decide (PySem.W.nsIn K mainGlobals "_law_web" = some (some (.ref f3))) && (PySem.W.keepIn K (.ref f3) && (PySem.W.keepIn K (.ref f13) && (decide (PySem.W.nsIn K mainGlobals "_law_is_closing" = some (some (.ref f19))) && (PySem.W.keepIn K (.ref f19) && (decide (PySem.W.nsIn K mainGlobals "_law_tree" = some (some (.ref f4))) && (PySem.W.keepIn K (.ref f4) && (PySem.W.makesIn K C_Web && (decide (PySem.W.findIn K (.ref C_Web) "__init__" = some (some (.ref f26))))))))))))))))))))))))))))))))
def clsB1 (K : PySem.W.Frag) (C_Web f7 f26 f27 f28 f29 f30 f31 f32 f33 f34 f35 : Addr) : Bool :=
  PySem.W.isFn K (.ref f26) && (PySem.W.keepIn K (.ref C_Web) && (decide (PySem.W.nsIn K mainGlobals "Web" = some (some (.ref C_Web))) && (decide (PySem.W.nsIn K mainGlobals "_is_web" = some (some (.ref f27))) && (decide (PySem.W.nsIn K mainGlobals "_are_places" = some (some (.ref f29))) && (decide (PySem.W.nsIn K mainGlobals "are_names" = some (some (.ref f32))) && (decide (PySem.W.nsIn K mainGlobals "is_name" = some (some (.ref f34))) && (decide (PySem.W.nsIn K mainGlobals "bool" = some none) && (decide (PySem.W.nsIn K mainGlobals "dict" = some none) && (decide (PySem.W.nsIn K mainGlobals "all" = some none) && (decide (PySem.W.nsIn K mainGlobals "ascends" = some (some (.ref f33))) && (decide (PySem.W.nsIn K mainGlobals "zip" = some none) && (decide (PySem.W.nsIn K mainGlobals "_are_ties" = some (some (.ref f30))) && (decide (PySem.W.nsIn K mainGlobals "is_tie" = some (some (.ref f35))) && (decide (PySem.W.nsIn K mainGlobals "reached_along" = some (some (.ref f31))) && (decide (PySem.W.nsIn K mainGlobals "_ends_off" = some (some (.ref f28))) && (PySem.W.plainGet K C_Web Str.empty && (PySem.W.hasDictIn K C_Web && (PySem.W.plainOver K C_Web && (decide (PySem.W.findIn K (.ref C_Web) "__setattr__" = some (some (.builtin "object.__setattr__"))) && (decide (PySem.W.findIn K (.ref C_Web) "_places" = some none) && (decide (PySem.W.findIn K (.ref C_Web) "_ties" = some none) && (decide (PySem.W.findIn K (.ref C_Web) "_near" = some none) && (decide (PySem.W.nsIn K mainGlobals "_law_made" = some (some (.ref f7))) && (PySem.W.keepIn K (.ref f7) && (decide (PySem.W.kitOne K (.ref C_Web) (.ref C_Web) = some true) && (decide (PySem.W.findIn K (.ref C_Web) "__class__" = some (some (.builtin "object.__class__"))) && (decide (PySem.W.specialIn K (.builtin "object.__class__") "__get__" = some (some (.builtin "getset_descriptor.__get__"))) && (decide (PySem.W.takesIn K (.builtin "object.__class__") = some true) && (decide (PySem.W.mroIn K C_Web (.type "object") = some true))))))))))))))))))))))))))))))
def clsB2 (K : PySem.W.Frag) (C_Web f10 f20 f24 f31 f33 f36 f37 f38 f39 f42 f43 f44 f45 p40 p41 : Addr) : Bool :=
  decide (PySem.W.nsIn K mainGlobals "need_web" = some (some (.ref f39))) && (PySem.W.keepIn K (.ref f39) && (decide (PySem.W.findIn K (.ref C_Web) "places" = some (some (.ref p40))) && (decide (PySem.W.specialIn K (.ref p40) "__get__" = some (some (.builtin "property.__get__"))) && (decide (PySem.W.takesIn K (.ref p40) = some true) && (decide (PySem.W.findIn K (.ref C_Web) "ties" = some (some (.ref p41))) && (decide (PySem.W.specialIn K (.ref p41) "__get__" = some (some (.builtin "property.__get__"))) && (decide (PySem.W.takesIn K (.ref p41) = some true) && (PySem.W.keepIn K (.ref f33) && (PySem.W.keepIn K (.ref f31) && (decide (PySem.W.nsIn K mainGlobals "is_joining_tree" = some (some (.ref f24))) && (PySem.W.keepIn K (.ref f24) && (decide (PySem.W.nsIn K mainGlobals "need_tree" = some (some (.ref f36))) && (PySem.W.keepIn K (.ref f36) && (decide (PySem.W.nsIn K mainGlobals "need_place" = some (some (.ref f37))) && (PySem.W.keepIn K (.ref f37) && (decide (PySem.W.findIn K (.ref C_Web) "neighbours" = some (some (.ref f44))) && (PySem.W.isFn K (.ref f44) && (PySem.W.keepIn K (.ref f44) && (decide (PySem.W.nsIn K mainGlobals "tie_of" = some (some (.ref f43))) && (PySem.W.keepIn K (.ref f43) && (decide (PySem.W.nsIn K mainGlobals "_hands" = some (some (.ref f42))) && (PySem.W.keepIn K (.ref f42) && (decide (PySem.W.nsIn K mainGlobals "_way" = some (some (.ref f38))) && (PySem.W.keepIn K (.ref f38) && (decide (PySem.W.nsIn K mainGlobals "way_in" = some (some (.ref f10))) && (PySem.W.keepIn K (.ref f10) && (decide (PySem.W.nsIn K mainGlobals "_law_hands" = some (some (.ref f45))) && (PySem.W.keepIn K (.ref f45) && (decide (PySem.W.nsIn K mainGlobals "_law_way" = some (some (.ref f20))))))))))))))))))))))))))))))))
def clsB3 (K : PySem.W.Frag) (C_Web f9 f11 f12 f20 f21 f22 f23 f46 f47 f48 f49 f50 f51 f52 f53 : Addr) : Bool :=
  PySem.W.keepIn K (.ref f20) && (decide (PySem.W.nsIn K mainGlobals "_need_off" = some (some (.ref f46))) && (PySem.W.keepIn K (.ref f46) && (decide (PySem.W.nsIn K mainGlobals "least_rotation" = some (some (.ref f47))) && (PySem.W.keepIn K (.ref f47) && (decide (PySem.W.nsIn K mainGlobals "ring_closed" = some (some (.ref f9))) && (PySem.W.keepIn K (.ref f9) && (decide (PySem.W.nsIn K mainGlobals "_law_begun" = some (some (.ref f48))) && (PySem.W.keepIn K (.ref f48) && (decide (PySem.W.nsIn K mainGlobals "_law_ring_form" = some (some (.ref f21))) && (PySem.W.keepIn K (.ref f21) && (decide (PySem.W.nsIn K mainGlobals "_law_lots" = some (some (.ref f22))) && (PySem.W.keepIn K (.ref f22) && (decide (PySem.W.nsIn K mainGlobals "_law_across" = some (some (.ref f23))) && (PySem.W.keepIn K (.ref f23) && (decide (PySem.W.nsIn K mainGlobals "_need_on" = some (some (.ref f49))) && (PySem.W.keepIn K (.ref f49) && (decide (PySem.W.nsIn K mainGlobals "_side" = some (some (.ref f50))) && (PySem.W.keepIn K (.ref f50) && (decide (PySem.W.findIn K (.ref C_Web) "ties_across" = some (some (.ref f51))) && (PySem.W.isFn K (.ref f51) && (PySem.W.keepIn K (.ref f51) && (decide (PySem.W.findIn K (.ref C_Web) "_need_set" = some (some (.ref f52))) && (PySem.W.isFn K (.ref f52) && (PySem.W.keepIn K (.ref f52) && (decide (PySem.W.nsIn K mainGlobals "is_place_set" = some (some (.ref f53))) && (PySem.W.keepIn K (.ref f53) && (decide (PySem.W.nsIn K mainGlobals "cut_closed" = some (some (.ref f11))) && (PySem.W.keepIn K (.ref f11) && (decide (PySem.W.nsIn K mainGlobals "side_of" = some (some (.ref f12))))))))))))))))))))))))))))))))
def clsB4 (K : PySem.W.Frag) (C_InvalidOperation f5 f6 f8 f12 f25 f54 f55 : Addr) : Bool :=
  PySem.W.keepIn K (.ref f12) && (decide (PySem.W.nsIn K mainGlobals "InvalidOperation" = some (some (.ref C_InvalidOperation))) && (PySem.W.excIn K C_InvalidOperation [.type "ValueError", .type "Exception", .type "BaseException", .type "object"] "ValueError.__new__" && (PySem.W.keepIn K (.ref C_InvalidOperation) && (decide (PySem.W.subIn K (.ref C_InvalidOperation) (.type "BaseException") = some true) && (decide (PySem.W.typeIn K (.ref C_InvalidOperation) = some (.type "type")) && (decide (PySem.W.nsIn K mainGlobals "exchanged" = some (some (.ref f54))) && (PySem.W.keepIn K (.ref f54) && (decide (PySem.W.exmOne K (.ref C_InvalidOperation) (.ref C_InvalidOperation) = some true) && (decide (PySem.W.nsIn K mainGlobals "_law_told" = some (some (.ref f25))) && (PySem.W.keepIn K (.ref f25) && (decide (PySem.W.nsIn K mainGlobals "_law_tree_right" = some (some (.ref f5))) && (PySem.W.keepIn K (.ref f5) && (decide (PySem.W.nsIn K mainGlobals "_law_pick" = some (some (.ref f55))) && (PySem.W.keepIn K (.ref f55) && (decide (PySem.W.nsIn K mainGlobals "_law_led_right" = some (some (.ref f6))) && (PySem.W.keepIn K (.ref f6) && (decide (PySem.W.nsIn K mainGlobals "_law_written" = some (some (.ref f8))) && (PySem.W.keepIn K (.ref f8)))))))))))))))))))
abbrev D1 : OwHd.Df := ⟨OwHd.glo "law", "law", "law", (top 65), []⟩
abbrev D2 : OwHd.Df := ⟨OwHd.glo "_law_dice", "_law_dice", "_law_dice", (top 43), []⟩
abbrev D3 : OwHd.Df := ⟨OwHd.glo "_law_web", "_law_web", "_law_web", (top 54), []⟩
abbrev D4 : OwHd.Df := ⟨OwHd.glo "_law_tree", "_law_tree", "_law_tree", (top 57), []⟩
abbrev D5 : OwHd.Df := ⟨OwHd.glo "_law_tree_right", "_law_tree_right", "_law_tree_right", (top 63), []⟩
abbrev D6 : OwHd.Df := ⟨OwHd.glo "_law_led_right", "_law_led_right", "_law_led_right", (top 64), []⟩
abbrev D7 : OwHd.Df := ⟨OwHd.glo "_law_made", "_law_made", "_law_made", (top 49), []⟩
abbrev D8 : OwHd.Df := ⟨OwHd.glo "_law_written", "_law_written", "_law_written", (top 55), []⟩
abbrev D9 : OwHd.Df := ⟨OwHd.glo "ring_closed", "ring_closed", "ring_closed", (top 32), []⟩
abbrev D10 : OwHd.Df := ⟨OwHd.glo "way_in", "way_in", "way_in", (top 31), []⟩
abbrev D11 : OwHd.Df := ⟨OwHd.glo "cut_closed", "cut_closed", "cut_closed", (top 33), []⟩
abbrev D12 : OwHd.Df := ⟨OwHd.glo "side_of", "side_of", "side_of", (top 34), []⟩
abbrev D13 : OwHd.Df := ⟨OwHd.glo "_law_mixed", "_law_mixed", "_law_mixed", (top 46), []⟩
abbrev D14 : OwHd.Df := ⟨OwHd.glo "_law_names", "_law_names", "_law_names", (top 52), []⟩
abbrev D15 : OwHd.Df := ⟨OwHd.glo "_law_roll", "_law_roll", "_law_roll", (top 44), []⟩
abbrev D16 : OwHd.Df := ⟨OwHd.glo "_law_tie", "_law_tie", "_law_tie", (top 47), []⟩
abbrev D17 : OwHd.Df := ⟨OwHd.glo "_law_pairs", "_law_pairs", "_law_pairs", (top 50), []⟩
abbrev D18 : OwHd.Df := ⟨OwHd.glo "_law_plain", "_law_plain", "_law_plain", (top 48), []⟩
abbrev D19 : OwHd.Df := ⟨OwHd.glo "_law_is_closing", "_law_is_closing", "_law_is_closing", (top 56), []⟩
abbrev D20 : OwHd.Df := ⟨OwHd.glo "_law_way", "_law_way", "_law_way", (top 59), []⟩
abbrev D21 : OwHd.Df := ⟨OwHd.glo "_law_ring_form", "_law_ring_form", "_law_ring_form", (top 61), []⟩
abbrev D22 : OwHd.Df := ⟨OwHd.glo "_law_lots", "_law_lots", "_law_lots", (top 51), []⟩
abbrev D23 : OwHd.Df := ⟨OwHd.glo "_law_across", "_law_across", "_law_across", (top 60), []⟩
abbrev D24 : OwHd.Df := ⟨OwHd.glo "is_joining_tree", "is_joining_tree", "is_joining_tree", (top 30), []⟩
abbrev D25 : OwHd.Df := ⟨OwHd.glo "_law_told", "_law_told", "_law_told", (top 62), []⟩
abbrev D26 : OwHd.Df := ⟨OwHd.met "Web" "__init__", "__init__", "Web.__init__", (mth 15 0), []⟩
abbrev D27 : OwHd.Df := ⟨OwHd.glo "_is_web", "_is_web", "_is_web", (top 24), []⟩
abbrev D28 : OwHd.Df := ⟨OwHd.glo "_ends_off", "_ends_off", "_ends_off", (top 23), []⟩
abbrev D29 : OwHd.Df := ⟨OwHd.glo "_are_places", "_are_places", "_are_places", (top 25), []⟩
abbrev D30 : OwHd.Df := ⟨OwHd.glo "_are_ties", "_are_ties", "_are_ties", (top 26), []⟩
abbrev D31 : OwHd.Df := ⟨OwHd.glo "reached_along", "reached_along", "reached_along", (top 22), []⟩
abbrev D32 : OwHd.Df := ⟨OwHd.glo "are_names", "are_names", "are_names", (top 11), []⟩
abbrev D33 : OwHd.Df := ⟨OwHd.glo "ascends", "ascends", "ascends", (top 21), []⟩
abbrev D34 : OwHd.Df := ⟨OwHd.glo "is_name", "is_name", "is_name", (top 10), []⟩
abbrev D35 : OwHd.Df := ⟨OwHd.glo "is_tie", "is_tie", "is_tie", (top 19), []⟩
abbrev D36 : OwHd.Df := ⟨OwHd.glo "need_tree", "need_tree", "need_tree", (top 36), []⟩
abbrev D37 : OwHd.Df := ⟨OwHd.glo "need_place", "need_place", "need_place", (top 17), []⟩
abbrev D38 : OwHd.Df := ⟨OwHd.glo "_way", "_way", "_way", (top 40), []⟩
abbrev D39 : OwHd.Df := ⟨OwHd.glo "need_web", "need_web", "need_web", (top 16), []⟩
abbrev D40 : OwHd.Df := ⟨OwHd.get_ "Web" "places", "places", "Web.places", (mth 15 3), []⟩
abbrev D41 : OwHd.Df := ⟨OwHd.get_ "Web" "ties", "ties", "Web.ties", (mth 15 4), []⟩
abbrev D42 : OwHd.Df := ⟨OwHd.glo "_hands", "_hands", "_hands", (top 39), []⟩
abbrev D43 : OwHd.Df := ⟨OwHd.glo "tie_of", "tie_of", "tie_of", (top 20), []⟩
abbrev D44 : OwHd.Df := ⟨OwHd.met "Web" "neighbours", "neighbours", "Web.neighbours", (mth 15 8), []⟩
abbrev D45 : OwHd.Df := ⟨OwHd.glo "_law_hands", "_law_hands", "_law_hands", (top 58), []⟩
abbrev D46 : OwHd.Df := ⟨OwHd.glo "_need_off", "_need_off", "_need_off", (top 38), []⟩
abbrev D47 : OwHd.Df := ⟨OwHd.glo "least_rotation", "least_rotation", "least_rotation", (top 28), []⟩
abbrev D48 : OwHd.Df := ⟨OwHd.glo "_law_begun", "_law_begun", "_law_begun", (top 53), []⟩
abbrev D49 : OwHd.Df := ⟨OwHd.glo "_need_on", "_need_on", "_need_on", (top 37), []⟩
abbrev D50 : OwHd.Df := ⟨OwHd.glo "_side", "_side", "_side", (top 41), []⟩
abbrev D51 : OwHd.Df := ⟨OwHd.met "Web" "ties_across", "ties_across", "Web.ties_across", (mth 15 13), []⟩
abbrev D52 : OwHd.Df := ⟨OwHd.met "Web" "_need_set", "_need_set", "Web._need_set", (mth 15 23), []⟩
abbrev D53 : OwHd.Df := ⟨OwHd.glo "is_place_set", "is_place_set", "is_place_set", (top 18), []⟩
abbrev D54 : OwHd.Df := ⟨OwHd.glo "exchanged", "exchanged", "exchanged", (top 35), []⟩
abbrev D55 : OwHd.Df := ⟨OwHd.glo "_law_pick", "_law_pick", "_law_pick", (top 45), []⟩
def ex0 (K : PySem.W.Frag) : Bool :=
  OwHd.intB K "MAX_LETTERS" 8 && (OwHd.intB K "MAX_PLACES" 9 && (OwHd.intB K "MAX_TIES" 18 && (decide (PySem.W.recIn K (OwHd.met "Web" "places" K) "property" = some (.ref (OwHd.get_ "Web" "places" K) :: (OwHd.recs "Web" "places" K).tail)) && (decide (PySem.W.recIn K (OwHd.met "Web" "ties" K) "property" = some (.ref (OwHd.get_ "Web" "ties" K) :: (OwHd.recs "Web" "ties" K).tail))))))
def exs (K : PySem.W.Frag) : Bool := clsB0 K (OwHd.glo "Web" K) (OwHd.glo "law" K) (OwHd.glo "_law_dice" K) (OwHd.glo "_law_web" K) (OwHd.glo "_law_tree" K) (OwHd.glo "_law_mixed" K) (OwHd.glo "_law_names" K) (OwHd.glo "_law_roll" K) (OwHd.glo "_law_tie" K) (OwHd.glo "_law_pairs" K) (OwHd.glo "_law_plain" K) (OwHd.glo "_law_is_closing" K) (OwHd.met "Web" "__init__" K) && (clsB1 K (OwHd.glo "Web" K) (OwHd.glo "_law_made" K) (OwHd.met "Web" "__init__" K) (OwHd.glo "_is_web" K) (OwHd.glo "_ends_off" K) (OwHd.glo "_are_places" K) (OwHd.glo "_are_ties" K) (OwHd.glo "reached_along" K) (OwHd.glo "are_names" K) (OwHd.glo "ascends" K) (OwHd.glo "is_name" K) (OwHd.glo "is_tie" K) && (clsB2 K (OwHd.glo "Web" K) (OwHd.glo "way_in" K) (OwHd.glo "_law_way" K) (OwHd.glo "is_joining_tree" K) (OwHd.glo "reached_along" K) (OwHd.glo "ascends" K) (OwHd.glo "need_tree" K) (OwHd.glo "need_place" K) (OwHd.glo "_way" K) (OwHd.glo "need_web" K) (OwHd.glo "_hands" K) (OwHd.glo "tie_of" K) (OwHd.met "Web" "neighbours" K) (OwHd.glo "_law_hands" K) (OwHd.met "Web" "places" K) (OwHd.met "Web" "ties" K) && (clsB3 K (OwHd.glo "Web" K) (OwHd.glo "ring_closed" K) (OwHd.glo "cut_closed" K) (OwHd.glo "side_of" K) (OwHd.glo "_law_way" K) (OwHd.glo "_law_ring_form" K) (OwHd.glo "_law_lots" K) (OwHd.glo "_law_across" K) (OwHd.glo "_need_off" K) (OwHd.glo "least_rotation" K) (OwHd.glo "_law_begun" K) (OwHd.glo "_need_on" K) (OwHd.glo "_side" K) (OwHd.met "Web" "ties_across" K) (OwHd.met "Web" "_need_set" K) (OwHd.glo "is_place_set" K) && (clsB4 K (OwHd.glo "InvalidOperation" K) (OwHd.glo "_law_tree_right" K) (OwHd.glo "_law_led_right" K) (OwHd.glo "_law_written" K) (OwHd.glo "side_of" K) (OwHd.glo "_law_told" K) (OwHd.glo "exchanged" K) (OwHd.glo "_law_pick" K) && (ex0 K)))))
def fns : List OwHd.Df := [D1, D2, D3, D4, D5, D6, D7, D8, D9, D10, D11, D12, D13, D14, D15, D16, D17, D18, D19, D20, D21, D22, D23, D24, D25, D26, D27, D28, D29, D30, D31, D32, D33, D34, D35, D36, D37, D38, D39, D40, D41, D42, D43, D44, D45, D46, D47, D48, D49, D50, D51, D52, D53, D54, D55]
abbrev RO : PySem.W.OpenRow := PySem.W.OpenLaw.row PySem.Challenge.rw_owedround_k18_whole_ways_rings_and_cuts
def gsL : List PySem.Str := [("InvalidOperation" : PySem.Str), ("Web" : PySem.Str), ("WebError" : PySem.Str), ("_are_places" : PySem.Str), ("_are_ties" : PySem.Str), ("_ends_off" : PySem.Str), ("_hands" : PySem.Str), ("_is_web" : PySem.Str), ("_law_across" : PySem.Str), ("_law_begun" : PySem.Str), ("_law_dice" : PySem.Str), ("_law_hands" : PySem.Str), ("_law_is_closing" : PySem.Str), ("_law_led_right" : PySem.Str), ("_law_lots" : PySem.Str), ("_law_made" : PySem.Str), ("_law_mixed" : PySem.Str), ("_law_names" : PySem.Str), ("_law_pairs" : PySem.Str), ("_law_pick" : PySem.Str), ("_law_plain" : PySem.Str), ("_law_ring_form" : PySem.Str), ("_law_roll" : PySem.Str), ("_law_tie" : PySem.Str), ("_law_told" : PySem.Str), ("_law_tree" : PySem.Str), ("_law_tree_right" : PySem.Str), ("_law_way" : PySem.Str), ("_law_web" : PySem.Str), ("_law_written" : PySem.Str), ("_need_off" : PySem.Str), ("_need_on" : PySem.Str), ("_side" : PySem.Str), ("_way" : PySem.Str), ("are_names" : PySem.Str), ("ascends" : PySem.Str), ("cut_closed" : PySem.Str), ("exchanged" : PySem.Str), ("is_joining_tree" : PySem.Str), ("is_name" : PySem.Str), ("is_place_set" : PySem.Str), ("is_tie" : PySem.Str), ("law" : PySem.Str), ("least_rotation" : PySem.Str), ("need_place" : PySem.Str), ("need_tree" : PySem.Str), ("need_web" : PySem.Str), ("reached_along" : PySem.Str), ("ring_closed" : PySem.Str), ("side_of" : PySem.Str), ("tie_of" : PySem.Str), ("way_in" : PySem.Str)]
def msL : List PySem.Str := [("__class__" : PySem.Str), ("__init__" : PySem.Str), ("__setattr__" : PySem.Str), ("_near" : PySem.Str), ("_need_set" : PySem.Str), ("_places" : PySem.Str), ("_ties" : PySem.Str), ("neighbours" : PySem.Str), ("places" : PySem.Str), ("ties" : PySem.Str), ("ties_across" : PySem.Str)]
abbrev hk : PySem.W.Hook := OwHd.hook (OwHd.azN gsL msL) fns exs
def obK (s : PySem.W.SharedT) : OwHd.Al := OwHd.seenAt (OwHd.azN gsL msL) fns exs (HandSHeadRun.getT s)
theorem obK_eq (s : PySem.W.SharedT) : obK s = hk.obs s.abs := OwHd.seenAt_eq (HandSHeadRun.getT_eq s)
def loose0 : List PySem.Str := [("_wall" : PySem.Str), ("WebError" : PySem.Str), ("InvalidTie" : PySem.Str), ("InvalidWeb" : PySem.Str), ("InvalidTree" : PySem.Str), ("InvalidOperation" : PySem.Str), ("UnknownName" : PySem.Str), ("MAX_LETTERS" : PySem.Str), ("is_name" : PySem.Str), ("are_names" : PySem.Str), ("MAX_PLACES" : PySem.Str), ("MAX_TIES" : PySem.Str), ("Web" : PySem.Str), ("need_web" : PySem.Str), ("need_place" : PySem.Str), ("is_place_set" : PySem.Str), ("is_tie" : PySem.Str), ("tie_of" : PySem.Str), ("ascends" : PySem.Str), ("reached_along" : PySem.Str), ("_ends_off" : PySem.Str), ("_is_web" : PySem.Str), ("_are_places" : PySem.Str), ("_are_ties" : PySem.Str), ("least_rotation" : PySem.Str), ("is_joining_tree" : PySem.Str), ("way_in" : PySem.Str), ("ring_closed" : PySem.Str), ("cut_closed" : PySem.Str), ("side_of" : PySem.Str), ("exchanged" : PySem.Str), ("need_tree" : PySem.Str), ("_need_on" : PySem.Str), ("_need_off" : PySem.Str), ("_hands" : PySem.Str)]
def loose1 : List PySem.Str := [("_way" : PySem.Str), ("_side" : PySem.Str), ("_law_dice" : PySem.Str), ("_law_roll" : PySem.Str), ("_law_pick" : PySem.Str), ("_law_mixed" : PySem.Str), ("_law_tie" : PySem.Str), ("_law_plain" : PySem.Str), ("_law_made" : PySem.Str), ("_law_pairs" : PySem.Str), ("_law_lots" : PySem.Str), ("_law_names" : PySem.Str), ("_law_begun" : PySem.Str), ("_law_web" : PySem.Str), ("_law_written" : PySem.Str), ("_law_is_closing" : PySem.Str), ("_law_tree" : PySem.Str), ("_law_hands" : PySem.Str), ("_law_way" : PySem.Str), ("_law_across" : PySem.Str), ("_law_ring_form" : PySem.Str), ("_law_told" : PySem.Str), ("_law_tree_right" : PySem.Str), ("_law_led_right" : PySem.Str)]
def looseL : List PySem.Str := loose0 ++ loose1
set_option maxHeartbeats 0 in
theorem runK (w : World) : HandSHeadRun.RunEq RO (PySem.W.view RO.prog [65]) hk obK 9000 looseL w := by
  intro os
  kernel_rfl
end OwW

namespace OwX
open PySem PySem.W PySem.Calls PyProof.Rows PySem.HandSPX
section
variable {prog : Program} {w : World} {A : Around} {E : Value → Shared → Prop} {R : Result → Shared → Prop} {s : Shared} {K : Frag} {mg : Str → Option Value} {nm qual : Str} {C fI : Addr} {f : Str}
theorem ex_made (T : ETxt K mg nm qual C fI f) {v : Value} (X : K.In s.heap) (hlim : s.heap.NoLimit) (hroom : A.depth + 1 < recursionLimit)
    (hq : ∀ h' tk e d t1, OwnMade s.heap h' e C d t1 f v → R (.ok (.ret (.ref e))) { s with heap := h', toks := tk }) :
    codeAny (model prog w) A (.call (.ref C) ⟨[v], []⟩) R s := by
  obtain ⟨B, B', newId, initId, bmN, bmB, FB, SF, TB, EC⟩ := T.ba
  obtain ⟨nm', N, qn, bs, bm, hdct, sn, sub, ab, col, dd, k0, k1, k2, k3, k5, hC, hT⟩ := excInit_of X EC.ini
  have TL : Tl bm B := ⟨by rw [hT]; exact TB.b, by rw [hT]; exact TB.a, by rw [hT]; exact TB.n⟩
  obtain ⟨hp, g, dr, tk, os⟩ := s
  have k : ∀ b o, hp.get? b = some o → ((hp.push (kdv_tup [v])).push (excO C hp.objs.size)).get? b = some o := fun b o e => Heap.get?_push_of_some _ (Heap.get?_push_of_some _ e)
  have hget : ((hp.push (kdv_tup [v])).push (excO C hp.objs.size)).get? (hp.objs.size + 1) = some (excO C hp.objs.size) := by heap_get
  refine tl_call FB TL hC (looks_findIn X EC.iC) (fun self => bind_fn X self EC.tI) (one_size v) ?_
  refine ex_init (s := ⟨(hp.push (kdv_tup [v])).push (excO C hp.objs.size), g, dr, tk, os⟩) T (X.keeps k) (hlim.keeps k) hget ?_ fun h' tk' dx ⟨k', hx, dn, dne, hns⟩ => ?_
  · show A.depth + 1 < recursionLimit
    exact hroom
  · have old : ∀ b o, hp.get? b = some o → h'.get? b = some o := fun b o e => k' b o (Nat.ne_of_lt (Nat.lt_succ_of_lt (Heap.lt_size e))) (k b o e)
    have z : hp.objs.size + 1 + 1 ≤ dx := by
      have q := dn
      first
        | exact q
        | (rw [Heap.size_push, Heap.size_push] at q; exact q)
    exact ⟨rfl, hq h' tk' (hp.objs.size + 1) dx hp.objs.size ⟨old, Nat.le_succ _, hx, Nat.le_trans (Nat.le_trans (Nat.le_succ _) (Nat.le_succ _)) z, dne, hns⟩⟩
end
end OwX
namespace OwX
open PySem PySem.Spec PyProof.Rows L2
theorem relO_one {v : V} {v' : Value} (r : RelV v v') (f g : Str) : RelO (List.lookup g [(f, v)]) (if g = f then some v' else none) := by
  by_cases hw : g = f
  · subst hw
    rw [if_pos rfl]
    have q : List.lookup g [(g, v)] = some v := by simp [List.lookup]
    rw [q]
    exact r
  · rw [if_neg hw]
    have qw : (g == f) = false := by simpa using hw
    have q2 : List.lookup g [(f, v)] = none := by simp [List.lookup, qw]
    rw [q2]
    trivial
section
variable {X : Cx} {nm qual : Str} {C fI : Addr} {f : Str}
/-- both objects of a made error are tracked -/
theorem ex_inv {pins : List (Addr × Obj)} {σ : L2.St} {H : Hp} {s : Shared} {h' : Heap} {tk : Nat} {e d t1 : Addr} {v : V} {v' : Value} (I : Inv X pins σ H s) (rv : RelV v v') (M : OwnMade s.heap h' e C d t1 f v') :
    H e = none ∧ H d = none ∧ Inv X pins σ (upd (upd H d (exd d [(f, v)])) e (exo e C (some d))) { s with heap := h', toks := tk } := by
  have He := I.hok.fresh M.new
  have Hd := I.hok.fresh M.dbig
  refine ⟨He, Hd, ?_⟩
  obtain ⟨G, g1, g2⟩ := restrict h' fun b => decide (b ≠ e)
  have gk : ∀ b, b ≠ e → G.get? b = h'.get? b := fun b hb => g1 b (decide_eq_true hb)
  have ge : G.get? e = none := g2 e (by simp)
  have old : ∀ b o, s.heap.get? b = some o → G.get? b = some o := fun b o q => (gk b (Nat.ne_of_lt (Nat.lt_of_lt_of_le (Heap.lt_size q) M.new))).trans (M.keep b o q)
  have nd : s.heap.get? d = none := Heap.get?_none_of_le M.dbig
  have J : Inv X pins σ (upd H d (exd d [(f, v)])) { s with heap := G, toks := tk } :=
    I.laidN old nd Hd (exd_ok (M.ns.at (fun o q => (gk d M.dne).trans q)) fun g => relO_one rv f g)
  have gh : ∀ b o, G.get? b = some o → h'.get? b = some o := fun b o q => by
    by_cases hb : b = e
    · rw [hb, ge] at q; cases q
    · exact (gk b hb).symm.trans q
  exact J.laidN gh ge (by rw [upd_ne (Ne.symm M.dne)]; exact He) (exo_ok M.obj)
/-- nm(a), as a value -/
def tMkV (C : Addr) (f : Str) (ta : TA) : TE := fun σ H Q => ta σ H fun vs H1 => ∃ v, vs = [v] ∧ ∀ e d, H1 e = none → H1 d = none → d ≠ e → Q (.ref e) (upd (upd H1 d (exd d [(f, v)])) e (exo e C (some d)))
theorem pe_mkV {a : Expr} {ta : TA} {p pos : Pos} {k : Nat} (T : ETxt X.K X.mg nm qual C fI f) (hr : Room k X.A) (ha : PA X [a] ta) (hg : Gl X nm) (hdb : (nm == ("__debug__" : Str)) = false := by decide)
    (he : starEach (a :: []) X.env = (false, eval a X.env) :: starEach [] X.env := by rfl) (hpl : (backTo pos (starEach [] X.env)).any (·.1) = false := by rfl) :
    PE X (.Call (.Name nm p) [a] [] pos) (tMkV C f ta) := by
  refine ⟨fun pins s σ H Q I h => ?_⟩
  obtain ⟨B, B', newId, initId, bmN, bmB, FB, SF, TB, EC⟩ := T.ba
  refine wpAny_Call_Name_kw (ld_glob I hg T.gC ?_ hdb)
  refine PySem.W.callWith_K (h₀ := X.base) I.ok.mod.kin EC.kC (thn (ha.run pos pins s σ H _ I h) fun us s1 hh => ?_) he hpl
  obtain ⟨vs, H1, I1, r1, v, ev, q1⟩ := hh
  subst ev
  refine ⟨I1.kIn, ?_⟩
  obtain ⟨v', rfl, rv⟩ := vals1 r1
  show wpAny _ _ (call (.ref C) [v']) _ _ _
  refine wpAny_call (ex_made T I1.kIn I1.nolimit (by have := hr.dp; omega) fun h' tk' e d t1 M => ?_)
  obtain ⟨z1, z2, J⟩ := ex_inv (tk := tk') I1 rv M
  exact ⟨.ref e, _, J, rfl, q1 e d z1 z2 M.dne⟩
/-- nm(a), to be raised -/
def tMkE (C : Addr) (f : Str) (ta : TA) : L2.St → Hp → XK → Prop := fun σ H Q => ta σ H fun vs H1 => ∃ v, vs = [v] ∧ ∀ d, H1 d = none → Q (.ref C) (some d) (upd H1 d (.xd [(f, v)]))
theorem pmk_mkE {a : Expr} {ta : TA} {p pos : Pos} {k : Nat} (T : ETxt X.K X.mg nm qual C fI f) (hr : Room k X.A) (ha : PA X [a] ta) (hg : Gl X nm) (hdb : (nm == ("__debug__" : Str)) = false := by decide)
    (he : starEach (a :: []) X.env = (false, eval a X.env) :: starEach [] X.env := by rfl) (hpl : (backTo pos (starEach [] X.env)).any (·.1) = false := by rfl) :
    PMk X (.Call (.Name nm p) [a] [] pos) (tMkE C f ta) := by
  intro pins s σ H Q I h
  obtain ⟨B, B', newId, initId, bmN, bmB, FB, SF, TB, EC⟩ := T.ba
  refine wpAny_Call_Name_kw (ld_glob I hg T.gC ?_ hdb)
  refine PySem.W.callWith_K (h₀ := X.base) I.ok.mod.kin EC.kC (thn (ha.run pos pins s σ H _ I h) fun us s1 hh => ?_) he hpl
  obtain ⟨vs, H1, I1, r1, v, ev, q1⟩ := hh
  subst ev
  refine ⟨I1.kIn, ?_⟩
  obtain ⟨v', rfl, rv⟩ := vals1 r1
  show wpAny _ _ (call (.ref C) [v']) _ _ _
  have hlim := I1.nolimit
  obtain ⟨hp, g, dr, tk, os⟩ := s1
  refine wpAny_call (ex_made T I1.kIn hlim (by have := hr.dp; omega) fun h' tk' e d t1 M => ?_)
  show MkP X pins σ Q (.ref e) ⟨h', g, dr, tk', os⟩
  obtain ⟨G', g1, g2⟩ := restrict h' fun b => decide (b ≠ e)
  have gk : ∀ b, b ≠ e → G'.get? b = h'.get? b := fun b hb => g1 b (decide_eq_true hb)
  have ge : G'.get? e = none := g2 e (by simp)
  have old : ∀ b o, hp.get? b = some o → G'.get? b = some o := fun b o q => (gk b (Nat.ne_of_lt (Nat.lt_of_lt_of_le (Heap.lt_size q) M.new))).trans (M.keep b o q)
  have ob : ObjOk X.prog X.w (upd H1 d (.xd [(f, v)])) G' d (.xd [(f, v)]) := ⟨_, M.ns.at (fun o q => (gk d M.dne).trans q), fun g => relO_one rv f g⟩
  have J : Inv X pins σ (upd H1 d (.xd [(f, v)])) (⟨G', g, dr, tk', os⟩ : Shared) := I1.laid (t' := tk') old M.dbig ob
  refine ⟨e, _, _, (⟨G', g, dr, tk', os⟩ : Shared), _, .ref C, some d, rfl, J, fun b o q => ?_, ge, M.obj, ⟨rfl, rfl⟩, rfl, rfl, ?_, rfl, I1.bare, raises_own EC.exC EC.tyC, q1 d (I1.hok.fresh M.dbig)⟩
  · by_cases hb : b = e
    · have q' : G'.get? b = some o := q
      rw [hb, ge] at q'; cases q'
    · exact (gk b hb).symm.trans q
  · rw [upd_ne (Ne.symm M.dne)]
    exact I1.hok.fresh M.new
/-- e.f, e an error held as a value -/
def tXv (K : PySem.W.Frag) (f : Str) (te : TE) : TE := fun σ H Q => te σ H fun x H1 => ∃ (a d C fI : Addr) (bmB : List Value) (newId : String) (v : V), x = .ref a ∧ H1 a = some (exo a C (some d)) ∧ H1 d = some (exd d [(f, v)]) ∧ ExC K C fI f bmB newId ∧ Q v H1
theorem pe_xv {e : Expr} {te : TE} {pos : Pos} (he : PE X e te) (hb : attributeBase e f X.env (eval e X.env) = eval e X.env := by rfl) : PE X (.Attribute e f pos) (tXv X.K f te) := by
  refine ⟨fun pins s σ H Q I h => ?_⟩
  refine attr_of hb (thn (he.run pins s σ H _ I h) fun u s1 hh => ?_)
  obtain ⟨x, H1, I1, rx, a, d, C, fI, bmB, newId, v, ex, ea, ed, EC, q⟩ := hh
  subst ex
  obtain rfl : u = Value.ref a := rx
  obtain ⟨t1, ho⟩ := exo_at I1.hok ea
  obtain ⟨mA, hns, hr⟩ := exd_at I1.hok ed
  obtain ⟨od, hod, hl⟩ := lookIn_ns hns
  have l : List.lookup f [(f, v)] = some v := by simp [List.lookup]
  obtain ⟨u, hu, ru⟩ := RelO.some_of (v := v) (o := mA f) (by rw [← l]; exact hr f)
  have J : PySem.W.InstAt s1.heap a { cls := .ref C, dict := some d, data := .fields #[.ref t1, .none, .none, .none, .bool false, .none] } C (some od) := ⟨ho, rfl, rfl, hod⟩
  exact HandSPX.exc_get I1.kIn J EC.ga EC.gg EC.exC (PySem.W.findObj_own EC.hd EC.noN rfl (by rw [hl, hu])) (handed_of ru) ⟨v, H1, I1.tok _, ru, q⟩
end
end OwX

/-! Defs whose calls may ask for the text of containers: the context's guards are known to be none. -/
namespace OwX
open PySem PySem.Spec PyProof.Rows L2 L2H
/-- as FnOk, called where no guard stands -/
structure GFn (P : Program) (w : World) (K : PySem.W.Frag) (mg : Str → Option Value) (base : Heap) (CX : CXT) (k : Nat) (f : Addr) (fd : FuncData) (ps : List Str) (sp : Sp) : Prop where
  len : ∀ vs H Q E, sp vs H Q E → vs.length = ps.length
  run : ∀ (A : Around) (outer : List Env) (s : Shared) (H : Hp) (args : Args) (us : List Value) (vs : List V) (Q : VK) (E : XK), Room k A → A.guards = some [] → Env0 P w K mg base A outer s H → BindsTo s fd args (ps.zip us) → Vals vs us →
    sp vs H Q E → codeAny (model P w) A (.call (.ref f) args) (CR CX outer P w H s Q E) s
/-- as FnOk, called where the exception p is handled, which the promise may speak of -/
structure PFn (P : Program) (w : World) (K : PySem.W.Frag) (mg : Str → Option Value) (base : Heap) (CX : CXT) (k : Nat) (f : Addr) (fd : FuncData) (ps : List Str) (sp : Addr × Obj → Sp) : Prop where
  len : ∀ p vs H Q E, sp p vs H Q E → vs.length = ps.length
  run : ∀ (A : Around) (outer : List Env) (s : Shared) (H : Hp) (args : Args) (us : List Value) (vs : List V) (Q : VK) (E : XK) (p : Addr × Obj), RoomH k A → PinOk outer H s p → Env0 P w K mg base A outer s H → BindsTo s fd args (ps.zip us) →
    Vals vs us → sp p vs H Q E → codeAny (model P w) A (.call (.ref f) args) (CR CX outer P w H s Q E) s
section
variable {P : Program} {w : World} {K : PySem.W.Frag} {mg : Str → Option Value} {base : Heap} {CX : CXT} {k : Nat} {f : Addr} {fd : FuncData} {N ps : List Str} {sp : Sp}
theorem GFn.of (F : FnOk P w K mg base CX k f fd ps sp) : GFn P w K mg base CX k f fd ps sp := ⟨F.len, fun A outer s H args us vs Q E hr _ => F.run A outer s H args us vs Q E hr⟩
theorem GFn.mono {j : Nat} (F : GFn P w K mg base CX j f fd ps sp) (h : j ≤ k) : GFn P w K mg base CX k f fd ps sp := ⟨F.len, fun A outer s H args us vs Q E hr => F.run A outer s H args us vs Q E (hr.mono h)⟩
/-- the run of a def's body, whatever its context -/
theorem body_run {name qual : Str} {params : Arguments} {body : List Stmt} {scope : Scope} {dV kV doc pm cdv ct oc : Value} {an od : Option Addr} {osl : Array (Option Value)} (lk : K.lookup f = some ⟨oc, od, .func (PySem.W.fnOf name qual params body scope dV kV doc pm an cdv ct), osl⟩)
    (hcd : PySem.W.codeIn K cdv qual = true) (S : FnScope N ps scope) {A : Around} {outer : List Env} {s : Shared} {H : Hp} {args : Args} {us : List Value} {vs : List V} {Q : VK} {E : XK} (hd : A.depth < recursionLimit) (e0 : Env0 P w K mg base A outer s H)
    (hb : BindsTo s (PySem.W.fnOf name qual params body scope dV kV doc pm an cdv ct) args (ps.zip us)) (X : Cx) (xP : X.prog = P) (xw : X.w = w) (xA : X.A = A.deeper (envOfC qual scope s.heap.objs.size f cdv)) (xe : X.env = envOfC qual scope s.heap.objs.size f cdv)
    (xs : X.s_0 = s) (xH : X.H_0 = H) (xo : X.outer = outer) (xx : X.ex = [])
    (xX : X.xe = fun e s' => wpAny (model P w) (A.deeper (envOfC qual scope s.heap.objs.size f cdv)) (leaving (envOfC qual scope s.heap.objs.size f cdv) e) (fun _ s'' => CX outer H s E e s'') (fun e' s'' => CX outer H s E e' s'') s')
    (I : ∀ s1 : Shared, InCallC s s.heap.objs.size (bindL (envOfC qual scope s.heap.objs.size f cdv).kindOf (ps.zip us) fun _ => none) (cellsFrom (s.heap.objs.size + 1) scope.names []) (bindC (envOfC qual scope s.heap.objs.size f cdv).kindOf (ps.zip us) fun _ => none) s1 → Inv X [] (start N vs) H s1)
    {t : TS} (ht : PSs X body t) (hq : t { nx := fun _ H' => Q .non H', rt := Q } (start N vs) H) : codeAny (model P w) A (.call (.ref f) args) (CR CX outer P w H s Q E) s := by
  have KX : K.In s.heap := e0.mod.kin.keeps (fun b o e => (e0.bs b o e).1)
  have hkd : ∀ y ∈ ps.zip us, scope.names.lookup y.1 = some .local ∨ (scope.names.lookup y.1 = some .cell ∧ ((cellsFrom (s.heap.objs.size + 1) scope.names []).lookup y.1).isSome = true) := by
    rintro ⟨n, v⟩ hy
    exact (S.par n (List.of_mem_zip hy).1).elim Or.inl (fun q => Or.inr ⟨q, PySem.W.cellsFrom_some _ _ _ (.inl q)⟩)
  refine codeAny_call_function hd (KX _ _ lk) rfl S.co S.gen rfl (PySem.W.codeRec_of KX hcd) (hb _ _ _ _ (wpAny_newFunctionEnv_cells S.kind hkd fun env he s1 x => ?_))
  subst he
  refine ⟨(e0.mod.nolimit.keeps fun b o e => (e0.bs b o e).1).keeps x.toInCall.keep, codeAny_func ?_⟩
  have J := ht.run [] s1 (start N vs) H _ (I s1 x) hq
  rw [xP, xw, xA, xe, xX] at J
  refine wpAny_mono J (fun fl s' hs => ?_) (fun e s' hs => hs)
  have fin : ∀ {σ' : L2.St} {H' : Hp} {v : V} {u : Value}, Inv X [] σ' H' s' → RelV v u → Q v H' → CE outer P w H s Q u s' := fun {σ' H' v u} J rv q => by
    have z1 := J.os
    have z2 := J.base
    have z3 := J.hok
    unfold Cx.fs at z2
    rw [xs] at z1 z2
    rw [xo, xx, xH] at z2
    rw [xP, xw] at z3
    exact ⟨v, H', z1, J.bare, z2, z3, rv, q⟩
  cases fl with
  | ret u => obtain ⟨v, σ', H', J, rv, q⟩ := hs; exact fin J rv q
  | next => obtain ⟨σ', H', J, q⟩ := hs; exact fin (v := V.non) (u := Value.none) J rfl q
  | brk => obtain ⟨_, _, _, q⟩ := hs; exact False.elim q
  | cont => obtain ⟨_, _, _, q⟩ := hs; exact False.elim q
/-- a def by its body, called where no guard stands; it may raise -/
theorem gfn_of {x qual : Str} {st : Stmt} (F : Fun K x qual st f fd) (S : FnScope N ps (defScope st)) (len : ∀ vs H Q E, sp vs H Q E → vs.length = ps.length)
    (hbody : ∀ (cdv : Value) (A : Around) (outer : List Env) (s : Shared) (H : Hp) (vs : List V) (Q : VK) (E : XK), Room k (A.deeper (envOfC qual (defScope st) s.heap.objs.size f cdv)) → (A.deeper (envOfC qual (defScope st) s.heap.objs.size f cdv)).guards = some [] → sp vs H Q E →
      ∃ t, PSs (cxOf (L2.CX P w) P w K mg base N qual (defScope st) f cdv A outer s H E) (defBody st) t ∧ t { nx := fun _ H' => Q .non H', rt := Q } (start N vs) H) : GFn P w K mg base (L2.CX P w) (k + 1) f fd ps sp := by
  obtain ⟨oc, od, kV, doc, pm, an, cdv, ct, osl, rfl, lk, hcd⟩ := F.ex
  refine ⟨len, fun A outer s H args us vs Q E hr hg e0 hb r hsp => ?_⟩
  have hl := len _ _ _ _ hsp
  obtain ⟨t, ht, hq⟩ := hbody cdv A outer s H vs Q E (hr.deeper _) hg hsp
  exact body_run lk hcd S hr.depth e0 hb _ rfl rfl rfl rfl rfl rfl rfl rfl rfl (fun s1 x => inv_start S hr.hd e0 hl r x) ht hq
/-- a def by its body, called where p is handled -/
theorem pfn_of {x qual : Str} {st : Stmt} {sp : Addr × Obj → Sp} (F : Fun K x qual st f fd) (S : FnScope N ps (defScope st)) (len : ∀ p vs H Q E, sp p vs H Q E → vs.length = ps.length)
    (hbody : ∀ (cdv : Value) (A : Around) (outer : List Env) (s : Shared) (H : Hp) (vs : List V) (Q : VK) (E : XK) (p : Addr × Obj), RoomH k (A.deeper (envOfC qual (defScope st) s.heap.objs.size f cdv)) → sp p vs H Q E →
      ∃ t, PSs (cxH (L2.CX P w) P w K mg base N qual (defScope st) f cdv A outer s H E p) (defBody st) t ∧ t { nx := fun _ H' => Q .non H', rt := Q } (start N vs) H) : PFn P w K mg base (L2.CX P w) (k + 1) f fd ps sp := by
  obtain ⟨oc, od, kV, doc, pm, an, cdv, ct, osl, rfl, lk, hcd⟩ := F.ex
  refine ⟨len, fun A outer s H args us vs Q E p hr hp e0 hb r hsp => ?_⟩
  have hl := len _ _ _ _ _ hsp
  obtain ⟨t, ht, hq⟩ := hbody cdv A outer s H vs Q E p (hr.deeper _) hsp
  exact body_run lk hcd S hr.depth e0 hb _ rfl rfl rfl rfl rfl rfl rfl rfl rfl (fun s1 x => inv_startH S hp e0 hl r x) ht hq
end
end OwX

namespace OwX
open PySem PySem.Spec PyProof.Rows L2 L2H
/-! ### calls of such defs -/
theorem never_at {X : Cx} {σ : L2.St} : PassesAt (L2.CX X.prog X.w) X σ (fun _ _ _ => False) := fun _ _ _ _ _ _ c => by
  obtain ⟨_, _, _, _, _, _, _, _, _, _, _, _, z⟩ := c
  exact z.elim
section
variable {X : Cx} {k : Nat} {f : Addr} {fd : FuncData} {ps : List Str} {sp : Sp} {E : L2.St → XK} {x : Str} {p pos : Pos} {e : Expr} {es : List Expr} {t : TA}
theorem run_gfn {pins : List (Addr × Obj)} {σ : L2.St} {H : Hp} {s : Shared} {Q : VK} {us : List Value} {vs : List V} (F : GFn X.prog X.w X.K X.mg X.base (L2.CX X.prog X.w) k f fd ps sp) (hr : Room k X.A) (hg : X.A.guards = some []) (hb : Binds X.K fd ps [])
    (hx : PassesAt (L2.CX X.prog X.w) X σ (E σ)) (I : Inv X pins σ H s) (r : Vals vs us) (h : sp vs H Q (E σ)) : wpAny (model X.prog X.w) X.A (call (.ref f) us) (EP X pins σ Q) X.xe s := by
  have hl : us.length = ps.length := r.length.symm.trans (F.len _ _ _ _ h)
  have b := hb s us I.kIn (by rw [List.append_nil]; exact hl)
  rw [List.append_nil] at b
  refine wpAny_call (codeAny_mono (F.run X.A X.stack s H ⟨us, []⟩ us vs Q (E σ) hr hg I.env0 b r h) fun r s' z => ?_)
  rcases r with er | fl
  · exact hx pins H s er s' I z
  · cases fl <;> first | exact I.after z | exact False.elim z
theorem pe_callG (F : GFn X.prog X.w X.K X.mg X.base (L2.CX X.prog X.w) k f fd ps sp) (hr : Room k X.A) (hgd : X.A.guards = some []) (hg : Gl X x) (hm : X.mg x = some (.ref f)) (hk : PySem.W.keepIn X.K (.ref f) = true) (hb : Binds X.K fd ps [])
    (hx : ∀ σ, PassesAt (L2.CX X.prog X.w) X σ (E σ)) (ha : PA X (e :: es) t) (hdb : (x == ("__debug__" : Str)) = false := by decide) (he : starEach (e :: es) X.env = (false, eval e X.env) :: starEach es X.env := by rfl)
    (hpl : (backTo pos (starEach es X.env)).any (·.1) = false := by rfl) : PE X (.Call (.Name x p) (e :: es) [] pos) (tCallS sp E t) := by
  refine ⟨fun pins s σ H Q I h => wpAny_Call_Name_kw (ld_glob I hg hm ?_ hdb)⟩
  exact PySem.W.callWith_K (h₀ := X.base) I.ok.mod.kin hk (thn (ha.run pos pins s σ H _ I h) fun us s1 ⟨vs, H1, I1, r, q⟩ => ⟨I1.kIn, run_gfn F hr hgd hb (hx σ) I1 r q⟩) he hpl
theorem pe_callG0 (F : GFn X.prog X.w X.K X.mg X.base (L2.CX X.prog X.w) k f fd ps sp) (hr : Room k X.A) (hgd : X.A.guards = some []) (hg : Gl X x) (hm : X.mg x = some (.ref f)) (hk : PySem.W.keepIn X.K (.ref f) = true) (hb : Binds X.K fd ps [])
    (hx : ∀ σ, PassesAt (L2.CX X.prog X.w) X σ (E σ)) (hdb : (x == ("__debug__" : Str)) = false := by decide) : PE X (.Call (.Name x p) [] [] pos) (tCallS sp E tNil) := by
  refine ⟨fun pins s σ H Q I h => wpAny_Call_Name_kw (ld_glob I hg hm ?_ hdb)⟩
  exact PySem.W.callWith_K0 I.kIn hk (run_gfn (us := []) F hr hgd hb (hx σ) I .nil h)
/-- in an except suite: a call of a def that may speak of the handled error -/
theorem pe_callP {spP : Addr × Obj → Sp} {q : Addr × Obj} (F : PFn X.prog X.w X.K X.mg X.base (L2.CX X.prog X.w) k f fd ps spP) (hr : RoomH k X.A) (hq : q ∈ X.pn) (hg : Gl X x) (hm : X.mg x = some (.ref f)) (hk : PySem.W.keepIn X.K (.ref f) = true)
    (hb : Binds X.K fd ps []) (hx : ∀ σ, PassesAt (L2.CX X.prog X.w) X σ (E σ)) (ha : PA X (e :: es) t) (hdb : (x == ("__debug__" : Str)) = false := by decide) (he : starEach (e :: es) X.env = (false, eval e X.env) :: starEach es X.env := by rfl)
    (hpl : (backTo pos (starEach es X.env)).any (·.1) = false := by rfl) : PE X (.Call (.Name x p) (e :: es) [] pos) (tCallS (spP q) E t) := by
  refine ⟨fun pins s σ H Q I h => wpAny_Call_Name_kw (ld_glob I hg hm ?_ hdb)⟩
  refine PySem.W.callWith_K (h₀ := X.base) I.ok.mod.kin hk (thn (ha.run pos pins s σ H _ I h) fun us s1 ⟨vs, H1, I1, r, z⟩ => ⟨I1.kIn, ?_⟩) he hpl
  have hl : us.length = ps.length := r.length.symm.trans (F.len _ _ _ _ _ z)
  have b := hb s1 us I1.kIn (by rw [List.append_nil]; exact hl)
  rw [List.append_nil] at b
  have P1 := I1.pin q (List.mem_append_left _ hq)
  have hp : PinOk X.stack H1 s1 q := ⟨P1.1, P1.2.1, fun hm' => (List.mem_cons.mp (I1.stkSub q.1 hm')).elim P1.2.2.1 P1.2.2.2.1, P1.2.2.2.2⟩
  refine wpAny_call (codeAny_mono (F.run X.A X.stack s1 H1 ⟨us, []⟩ us vs Q (E σ) q hr hp I1.env0 b r z) fun r s' z => ?_)
  rcases r with er | fl
  · exact hx σ pins H1 s1 er s' I1 z
  · cases fl <;> first | exact I1.after z | exact False.elim z
end
/-! ### isinstance of an error, held as a value or handled -/
/-- what is asked of the class of an error, whichever it is -/
structure ErrC (K : PySem.W.Frag) (D : Addr) : Prop where
  cs : (PySem.W.clsIn K D).isSome = true
  ga : PySem.W.findIn K (.ref D) "__getattribute__" = some (some (.builtin "BaseException.__getattribute__"))
  gg : PySem.W.findIn K (.ref D) "__getattr__" = some none
  exC : PySem.W.subIn K (.ref D) (.type "BaseException") = some true
  cc : PySem.W.findIn K (.ref D) "__class__" = some (some (.builtin "object.__class__"))
  cg : PySem.W.specialIn K (.builtin "object.__class__") "__get__" = some (some (.builtin "getset_descriptor.__get__"))
  ct : PySem.W.takesIn K (.builtin "object.__class__") = some true
  mo : PySem.W.mroIn K D (.type "object") = some true
def errChk (K : PySem.W.Frag) (D : Addr) : Bool :=
  (PySem.W.clsIn K D).isSome && (decide (PySem.W.findIn K (.ref D) "__getattribute__" = some (some (.builtin "BaseException.__getattribute__"))) && (decide (PySem.W.findIn K (.ref D) "__getattr__" = some none) && (decide (PySem.W.subIn K (.ref D) (.type "BaseException") = some true) &&
  (decide (PySem.W.findIn K (.ref D) "__class__" = some (some (.builtin "object.__class__"))) && (decide (PySem.W.specialIn K (.builtin "object.__class__") "__get__" = some (some (.builtin "getset_descriptor.__get__"))) && (decide (PySem.W.takesIn K (.builtin "object.__class__") = some true) &&
  decide (PySem.W.mroIn K D (.type "object") = some true)))))))
theorem errChk_ok {K : PySem.W.Frag} {D : Addr} (h : errChk K D = true) : ErrC K D := by
  unfold errChk at h
  simp only [Bool.and_eq_true, decide_eq_true_eq] at h
  obtain ⟨h1, h2, h3, h4, h5, h6, h7, h8⟩ := h
  exact ⟨h1, h2, h3, h4, h5, h6, h7, h8⟩
/-- an error of the class D stands at a -/
def IsErr (H : Hp) (a D : Addr) : Prop := H a = some (ExO (.ref D) a) ∨ ∃ (d : Addr) (fs : List (Str × V)), H a = some (exo a D (some d)) ∧ H d = some (exd d fs)
def rIsX (K : PySem.W.Frag) : List V → Hp → VK → Prop := fun xs H Q => ∃ (a D : Addr) (c : V) (cv : Value) (b : Bool), xs = [.ref a, c] ∧ IsErr H a D ∧ ClsV c cv ∧ ErrC K D ∧ PySem.W.kitOne K (.ref D) cv = some b ∧ Q (.bl b) H
theorem call_isX {X : Cx} : CallR X (.builtin "isinstance") (rIsX X.K) := by
  intro pins s σ H xs us Q I r h
  obtain ⟨a, D, c, cv, b, rfl, he, hcv, T, e, q⟩ := h
  obtain ⟨u1, u2, rfl, r1, r2⟩ := vals2 r
  cases (show u1 = Value.ref a from r1)
  have e2 := hcv.eq r2
  subst e2
  have fin : ∀ tk, EP X pins σ Q (.bool b) { s with toks := tk } := fun tk => ⟨.bl b, H, I.kept (t' := tk) fun _ _ z => z, rfl, q⟩
  rcases he with he | ⟨d, fs, he, hd⟩
  · obtain ⟨⟨oe, vs, h1, hz, h2, _⟩, _, _⟩ := I.hok a _ he
    obtain ⟨oc, od, oda, osl⟩ := oe
    obtain ⟨z1, z2⟩ := hz
    dsimp only at z1 z2 h2
    subst z1 z2 h2
    exact PySem.W.kia_one (PySem.W.kitx_exc (od := none) T.cs T.ga T.gg T.exC T.cc T.cg T.ct T.mo) I.kIn ⟨h1, rfl, rfl, trivial⟩ e (fun z => nomatch z) fin
  · obtain ⟨t1, h1⟩ := exo_at I.hok he
    obtain ⟨mA, hns, _⟩ := exd_at I.hok hd
    obtain ⟨od, ho, _⟩ := lookIn_ns hns
    exact PySem.W.kia_one (PySem.W.kitx_exc (od := some od) T.cs T.ga T.gg T.exC T.cc T.cg T.ct T.mo) I.kIn ⟨h1, rfl, rfl, ho⟩ e (fun z => nomatch z) fin
/-- the error that is pinned -/
def rIsP (K : PySem.W.Frag) (p : Addr × Obj) : List V → Hp → VK → Prop := fun xs H Q => ∃ (D : Addr) (c : V) (cv : Value) (b : Bool), xs = [.ref p.1, c] ∧ (p.2.cls = .ref D ∧ p.2.dict = none ∧ ∃ vs, p.2.data = .fields vs) ∧ ClsV c cv ∧ ErrC K D ∧ PySem.W.kitOne K (.ref D) cv = some b ∧ Q (.bl b) H
theorem call_isP {X : Cx} {p : Addr × Obj} (hp : p ∈ X.pn) : CallR X (.builtin "isinstance") (rIsP X.K p) := by
  intro pins s σ H xs us Q I r h
  obtain ⟨D, c, cv, b, rfl, ⟨z1, z2, vs, z3⟩, hcv, T, e, q⟩ := h
  obtain ⟨u1, u2, rfl, r1, r2⟩ := vals2 r
  cases (show u1 = Value.ref p.1 from r1)
  have e2 := hcv.eq r2
  subst e2
  obtain ⟨h1, _⟩ := I.pin p (List.mem_append_left _ hp)
  obtain ⟨a, ⟨oc, od, oda, osl⟩⟩ := p
  dsimp only at z1 z2 z3 h1
  subst z1 z2 z3
  exact PySem.W.kia_one (PySem.W.kitx_exc (od := none) T.cs T.ga T.gg T.exC T.cc T.cg T.ct T.mo) I.kIn ⟨h1, rfl, rfl, trivial⟩ e (fun z => nomatch z) (fun tk => ⟨.bl b, H, I.kept (t' := tk) fun _ _ z => z, rfl, q⟩)
/-! ### text * int -/
def rMulS : R2 := fun x y H Q => ∃ (a : Str) (n : Int), x = .str a ∧ y = .int n ∧ MulOk a n ∧ Q (.str (Txt.mul a n)) H
theorem op_mulS {X : Cx} : OpR X (binaryOp .Mult) rMulS := by
  intro pins s σ H x y v u Q I rx ry h
  obtain ⟨a, n, rfl, rfl, hok, q⟩ := h
  obtain ⟨t, rfl⟩ := rx
  obtain ⟨t', rfl⟩ := ry
  exact SB.mul hok fun t' k => ⟨.str _, H, I.kept (t' := k) fun _ _ z => z, ⟨_, rfl⟩, q⟩
end OwX

namespace OwX
open PySem PySem.Spec PyProof.Rows L2 L2H
/-! ### repr of data: None, bools, ints, texts, tuples, lists, dicts of data -/
mutual
inductive Dq (K : PySem.W.Frag) (H : Hp) : V → PyData → Prop
  | non : Dq K H .non .none
  | bl (b : Bool) : Dq K H (.bl b) (.bool b)
  | int (i : Int) : Dq K H (.int i) (.int i)
  | str (x : Str) : Dq K H (.str x) (.str x)
  | lst {a : Addr} {xs : List V} {ds : List PyData} : SqL K H a xs → a ≠ sysModules → DqAll K H xs ds → Dq K H (.ref a) (.list ds)
  | tup {a : Addr} {xs : List V} {ds : List PyData} : SqT K H a xs → DqAll K H xs ds → Dq K H (.ref a) (.tuple ds)
  | dic {a : Addr} {kvs : List (Key × V)} {kds : List (PyData × PyData)} : H a = some (.dK kvs) → DqAll K H (kvs.map fun p => kV p.1) (kds.map (·.1)) → DqAll K H (kvs.map (·.2)) (kds.map (·.2)) → Dq K H (.ref a) (.dict kds)
inductive DqAll (K : PySem.W.Frag) (H : Hp) : List V → List PyData → Prop
  | nil : DqAll K H [] []
  | cons {v : V} {vs : List V} {d : PyData} {ds : List PyData} : Dq K H v d → DqAll K H vs ds → DqAll K H (v :: vs) (d :: ds)
end
theorem rel_key {k : Key} {v : Value} (h : keyIs k v = true) : RelV (kV k) v := by
  rcases keyIs_shape h with ⟨i, t, rfl, rfl⟩ | ⟨x, t, rfl, rfl⟩
  · exact ⟨t, rfl⟩
  · exact ⟨t, rfl⟩
theorem pairs_vals {P : Program} {w : World} : ∀ {es : List DictEntry} {vs : List (Key × Value)} {kvs : List (Key × V)}, Pairs (mixKind P w) es vs → KV kvs vs → Vals (kvs.map fun p => kV p.1) (es.map (·.key)) ∧ Vals (kvs.map (·.2)) (es.map (·.val))
  | _, _, _, .nil, r => by cases r; exact ⟨.nil, .nil⟩
  | _, _, _, .cons h1 h2 h3, r => by
    cases r with
    | @cons p q _ _ r1 r2 =>
      obtain ⟨z1, z2⟩ := pairs_vals h3 r2
      refine ⟨.cons ?_ z1, .cons ?_ z2⟩
      · show RelV (kV p.1) _
        rw [r1.1]
        exact rel_key h1
      · show RelV p.2 (DictEntry.val _)
        rw [h2]
        exact r1.2
/-- a dict's entries, as the object bears them -/
theorem dict_entries {P : Program} {w : World} {h : Heap} {a : Addr} {kvs : List (Key × V)} {vs : List (Key × Value)} (kv : KV kvs vs) (m : h.DictOf (mixKind P w) a vs) :
    ∃ (o : Obj) (es : Array DictEntry) (n : Nat), h.get? a = some o ∧ o.cls = .type "dict" ∧ o.data = .dict es n ∧ Vals (kvs.map fun p => kV p.1) (es.toList.map (·.key)) ∧ Vals (kvs.map (·.2)) (es.toList.map (·.val)) := by
  obtain ⟨o, es, ep, e, ex, d, _, r, _⟩ := m
  obtain ⟨z1, z2⟩ := pairs_vals r kv
  exact ⟨o, es, ep, e, ex.1, d, z1, z2⟩
section
variable {X : Cx} {pins : List (Addr × Obj)} {σ : L2.St} {H : Hp} {s : Shared}
mutual
theorem Dq.reads (I : Inv X pins σ H s) : ∀ {v : V} {d : PyData} {u : Value}, Dq X.K H v d → RelV v u → ∃ as, Reads s.heap u d as ∧ sysModules ∉ as
  | _, _, _, .non, r => by cases r; exact ⟨_, Reads.none, by simp⟩
  | _, _, _, .bl b, r => by cases r; exact ⟨_, Reads.bool b, by simp⟩
  | _, _, _, .int i, r => by obtain ⟨t, rfl⟩ := r; exact ⟨_, Reads.int i t, by simp⟩
  | _, _, _, .str x, r => by obtain ⟨t, rfl⟩ := r; exact ⟨_, Reads.str x t, by simp⟩
  | _, _, _, .lst hs hn ha, r => by
    cases r
    obtain ⟨its, rv, ⟨o, n, ho, hc, _, hd⟩, _⟩ := I.list hs
    obtain ⟨as, hr, hz⟩ := DqAll.reads I ha rv
    exact ⟨_, Reads.list ho hc hd hr, by simp only [List.mem_cons, not_or]; exact ⟨fun e => hn e.symm, hz⟩⟩
  | _, _, _, .tup hs ha, r => by
    cases r
    obtain ⟨its, rv, ⟨o, ho, hc, n, hd⟩, _⟩ := I.tuple hs
    obtain ⟨as, hr, hz⟩ := DqAll.reads I ha rv
    exact ⟨_, Reads.tuple ho hc hd hr, hz⟩
  | _, _, _, .dic hs h1 h2, r => by
    cases r
    obtain ⟨_, hS, vs, kv, m⟩ := (show ObjOk X.prog X.w H s.heap _ (.dK _) from I.hok _ _ hs)
    obtain ⟨o, es, n, e1, e2, e3, r1, r2⟩ := dict_entries kv m
    obtain ⟨as, q1, z1⟩ := DqAll.reads I h1 r1
    obtain ⟨bs, q2, z2⟩ := DqAll.reads I h2 r2
    refine ⟨_, Reads.dict e1 e2 e3 q1 q2, ?_⟩
    simp only [List.cons_append, List.mem_cons, List.mem_append, not_or]
    exact ⟨fun e => by rw [← e] at hS; simp at hS, z1, z2⟩
theorem DqAll.reads (I : Inv X pins σ H s) : ∀ {vs : List V} {ds : List PyData} {us : List Value}, DqAll X.K H vs ds → Vals vs us → ∃ as, ReadsAll s.heap us ds as ∧ sysModules ∉ as
  | _, _, _, .nil, r => by cases r; exact ⟨_, ReadsAll.nil, by simp⟩
  | _, _, _, .cons h1 h2, r => by
    cases r with
    | cons r1 r2 =>
      obtain ⟨as, q1, z1⟩ := Dq.reads I h1 r1
      obtain ⟨bs, q2, z2⟩ := DqAll.reads I h2 r2
      exact ⟨_, ReadsAll.cons q1 q2, by simp only [List.mem_append, not_or]; exact ⟨z1, z2⟩⟩
end
end
def rRepr (K : PySem.W.Frag) : List V → Hp → VK → Prop := fun xs H Q => ∃ (v : V) (d : PyData), xs = [v] ∧ Dq K H v d ∧ d.showable = true ∧ d.depth ≤ 16 ∧ d.shown.length ≤ sizeLine ∧ Q (.str d.shown) H
theorem call_reprD {X : Cx} (hg : X.A.guards = some []) (hu : X.A.units + 40 < cLine) : CallR X (.builtin "repr") (rRepr X.K) := by
  intro pins s σ H xs us Q I r h
  obtain ⟨v, d, rfl, hd, hs, hdp, hz, q⟩ := h
  obtain ⟨u, rfl, ru⟩ := vals1 r
  obtain ⟨as, hr, hn⟩ := Dq.reads I hd ru
  have fin : ∀ (t : Tok) (x : Str), x = d.shown → ∀ s' : Shared, (∃ h' tk, (∀ b o, s.heap.get? b = some o → h'.get? b = some o) ∧ s' = { s with heap := h', toks := tk }) → EP X pins σ Q (.str x t) s' := fun t x e s' ⟨h', tk, k, e2⟩ => by
    subst e e2
    exact ⟨.str d.shown, H, I.kept (t' := tk) k, ⟨t, rfl⟩, q⟩
  cases hd with
  | non => cases ru; exact P.repr_of_none (fin _ _ (by simp only [PyData.shown]) _ ⟨_, _, fun _ _ e => e, rfl⟩)
  | bl b => cases ru; exact P.repr_of_bool (fin _ _ (by cases b <;> simp only [PyData.shown] <;> rfl) _ ⟨_, _, fun _ _ e => e, rfl⟩)
  | int i =>
    obtain ⟨t, rfl⟩ := ru
    exact P.repr_of_int (by simpa [PyData.showable] using hs) (fin _ _ (by simp only [PyData.shown]) _ ⟨_, _, fun _ _ e => e, rfl⟩)
  | str x =>
    obtain ⟨t, rfl⟩ := ru
    exact P.repr_of_str (fin _ _ (by simp only [PyData.shown]) _ ⟨_, _, fun _ _ e => e, rfl⟩) (by simpa only [PyData.shown] using hz)
  | lst _ _ _ =>
    cases ru
    exact repr_of_reads' hr hs (fun _ => hn) hg (by omega) (fun _ _ e => e) (fun h' u tk hk => fin u _ rfl _ ⟨h', tk, hk, rfl⟩) hz
  | tup _ _ =>
    cases ru
    exact repr_of_reads' hr hs (fun _ => hn) hg (by omega) (fun _ _ e => e) (fun h' u tk hk => fin u _ rfl _ ⟨h', tk, hk, rfl⟩) hz
  | dic _ _ _ =>
    cases ru
    exact repr_of_reads' hr hs (fun _ => hn) hg (by omega) (fun _ _ e => e) (fun h' u tk hk => fin u _ rfl _ ⟨h', tk, hk, rfl⟩) hz
/-! ### new lists, known to be others than the modules' dict -/
theorem past_mods {X : Cx} {pins : List (Addr × Obj)} {σ : L2.St} {H : Hp} {s : Shared} (I : Inv X pins σ H s) {p : Addr} (h : s.heap.objs.size ≤ p) : p ≠ sysModules := by
  have h1 : mainGlobals < X.base.objs.size := I.mod.glob.lt
  have h2 := I.ok.bsz
  have h3 := I.sz
  have h1' : (3 : Nat) < X.base.objs.size := h1
  intro e
  have e' : @Eq Nat p 1 := e
  omega
def tLstN (t : TA) : TE := fun σ H Q => t σ H fun xs H1 => xs.length ≤ sizeLine ∧ ∀ p, H1 p = none → p ≠ sysModules → Q (.ref p) (upd H1 p (.lst xs))
theorem pe_lstN {X : Cx} {es : List Expr} {t : TA} {pos : Pos} (h : PA X es t) : PE X (.List es pos) (tLstN t) := by
  refine ⟨fun pins s σ H Q I hq => wpAny_List_spliced (thn (h.run pos pins s σ H _ I hq) fun us s1 ⟨xs, H1, I1, r, z, q⟩ => ⟨by rw [← r.length]; exact z, ?_⟩)⟩
  have hf : H1 s1.heap.objs.size = none := I1.hok.fresh (Nat.le_refl _)
  exact ⟨.ref s1.heap.objs.size, upd H1 s1.heap.objs.size (.lst xs), I1.laid (t' := s1.toks) (fun b u e => Heap.get?_push_of_some _ e) (Nat.le_refl _) ⟨z, us, 0, r, Heap.get?_push_size _ rfl⟩, rfl, q _ hf (past_mods I1 (Nat.le_refl _))⟩
def rCatN : R2 := fun x y H Q => ∃ l b xs zs, x = .ref l ∧ y = .ref b ∧ H l = some (.lst xs) ∧ H b = some (.lst zs) ∧ xs.length + zs.length ≤ sizeLine ∧ ∀ p, H p = none → p ≠ sysModules → Q (.ref p) (upd H p (.lst (xs ++ zs)))
theorem op_catN {X : Cx} : OpR X (binaryOp .Add) rCatN := by
  intro pins s σ H x y v u Q I rx ry h
  obtain ⟨l, b, xs, zs, rfl, rfl, hl, hb, hz, q⟩ := h
  cases rx
  cases ry
  obtain ⟨_, i1, n1, r1, _, e1⟩ := I.lstM hl
  obtain ⟨_, i2, n2, r2, _, e2⟩ := I.lstM hb
  have ea : i1.toArray ++ i2.toArray = (i1 ++ i2).toArray := by simp
  refine PySem.P.add_list e1 e2 ?_ (by (rw [List.size_toArray, List.size_toArray]; omega))
  rw [ea]
  exact ⟨.ref _, _, I.lnew (t' := s.toks) (r1.append r2) (by (rw [List.length_append]; omega)), rfl, q _ I.fresh (past_mods I (Nat.le_refl _))⟩
end OwX

/-! try with several clauses, some of them with a name -/
namespace OwX
open PySem PySem.Spec PyProof.Rows L2
/-- a clause's class, its name's slot, its suite -/
abbrev Cl3 := Value × Option Nat × (Addr → Value → Option Addr → TS)
def atSlot (i : Option Nat) (D : Ends) : Ends := match i with
  | none => D
  | some i => { nx := fun σ' H' => D.nx (σ'.set i none) H', rt := D.rt, bk := fun σ' H' => D.bk (σ'.set i none) H', ct := fun σ' H' => D.ct (σ'.set i none) H' }
def slotted (i : Option Nat) (σ : L2.St) (a : Addr) : L2.St := match i with
  | none => σ
  | some i => σ.set i (some (.ref a))
def wMix (K : PySem.W.Frag) (Wout : WX) (D : Ends) : List Cl3 → WX
  | [] => Wout
  | (c, i, ts) :: r => fun cls d σ H => ∃ b, PySem.W.exmOne K cls c = some b ∧ (b = true → ∀ a, H a = none → ts a cls d (atSlot i D) (slotted i σ a) H) ∧ (b = false → wMix K Wout D r cls d σ H)
inductive Clauses (X : Cx) : List ExceptHandler → List Cl3 → Prop
  | nil : Clauses X [] []
  | plain {x : Str} {c : Value} {ts : Addr → Value → Option Addr → TS} {b₀ : Stmt} {suite : List Stmt} {np pos' : Pos} {hds : List ExceptHandler} {l : List Cl3} (hc : Names X x c)
      (hsu : ∀ (a : Addr) (oe : Obj) (cls : Value) (d : Option Addr) (pn : List (Addr × Obj)), Zc cls d oe → (∃ vs, oe.data = .fields vs) → PSs (X.suite a ((a, oe) :: pn)) (b₀ :: suite) (ts a cls d)) (r : Clauses X hds l) :
      Clauses X (.ExceptHandler (some (.Name x np)) none (b₀ :: suite) pos' :: hds) ((c, none, ts) :: l)
  | named {x n : Str} {i : Nat} {c : Value} {ts : Addr → Value → Option Addr → TS} {b₀ : Stmt} {suite : List Stmt} {np pos' : Pos} {hds : List ExceptHandler} {l : List Cl3} (hN : X.N.Nodup) (hi : X.N[i]? = some n) (hln : X.env.kindOf n = some .local) (hc : Names X x c)
      (hsu : ∀ (a : Addr) (oe : Obj) (cls : Value) (d : Option Addr) (pn : List (Addr × Obj)), Zc cls d oe → (∃ vs, oe.data = .fields vs) → PSs (X.suite a ((a, oe) :: pn)) (b₀ :: suite) (ts a cls d)) (r : Clauses X hds l) :
      Clauses X (.ExceptHandler (some (.Name x np)) (some n) (b₀ :: suite) pos' :: hds) ((c, some i, ts) :: l)
section
variable {X : Cx} {body : List Stmt} {h₀ : ExceptHandler} {hds : List ExceptHandler} {l : List Cl3} {pos : Pos} {tb : WX → TS} {Wout : WX}
theorem ps_try_mix (hs : X.stack = X.env :: X.outer) (hf : X.env.frame = some X.env.locals) (tk : Takes X Wout)
    (hb : ∀ (W : WX) (pn : List (Addr × Obj)) (xe : Value → Shared → Prop), Takes (X.tr pn xe) W → PassesOwn (model X.prog X.w) X.A X.env xe → PSs (X.tr pn xe) body (tb W)) (hh : Clauses X (h₀ :: hds) l) :
    PS X (.Try body (h₀ :: hds) [] [] pos) (fun D σ H => tb (wMix X.K Wout D l) D σ H) := by
  refine ⟨fun pins s σ H D I h => wpAny_Try_except ?_⟩
  have ok := I.ok
  have hfr : X.A.frames = some (X.env :: X.outer) := ok.frames.trans (by rw [hs])
  refine wpAny_mono ((hb (wMix X.K Wout D l) (X.pn ++ pins) (fun e s₁ => wpAny (model X.prog X.w) X.A (noteFrame e X.env) (fun _ s₂ => wpAny (model X.prog X.w) X.A (setFlight e none) (fun _ s₃ => wpAny (model X.prog X.w) X.A (handleBy e X.env (h₀ :: hds)) (SP X pins D) X.xe s₃) X.xe s₂) X.xe s₁)
    (fun u s' xx => ?_) PassesOwn.looking).run [] s σ H D (I.toTry _) h) (fun f s1 hsp => ?_) (fun _ _ he => he)
  · obtain ⟨a, B, sI, pins', σ', H', cls, d, rfl, J', nb, up, sky, na, os, ag, w⟩ := xx
    have J : Inv X pins σ' H' sI := J'.ofTry ok
    have sk : Sky B (X.env :: X.outer) a (Zc cls d) X.env.locals s'.heap := hs ▸ sky
    show wpAny (model X.prog X.w) X.A (noteFrame (.ref a) X.env) _ _ _
    refine Sky.land Zc.steady hfr hf sk fun h3 fl3 up3 => ?_
    have J3 : Inv X pins σ' H' { s' with heap := h3 } := J.landed nb fl3.1 (up.trans up3) os ag
    obtain ⟨oe3, vs3, he3, hz3, hd3⟩ := fl3.there
    have nfr : a ∉ frs (X.env :: X.outer) := fun hm => by
      obtain ⟨_, o', e', hnf⟩ := fl3.2.2.1.mem hm
      exact hnf _ (by rw [he3] at e'; cases e'; exact hd3)
    have nL : a ≠ X.env.locals := fun z => nfr (List.mem_filterMap.mpr ⟨X.env, List.mem_cons_self, hf.trans (congrArg some z.symm)⟩)
    have nF : a ∉ X.fs := fun hm => (List.mem_filterMap.mp hm).elim fun e q => nfr (List.mem_filterMap.mpr ⟨e, List.mem_cons_of_mem _ q.1, q.2⟩)
    have S3 := J3.suite he3 hd3 na nL nF
    have test : ∀ {x : Str} {c : Value} {np : Pos} {Q : Value → Shared → Prop} {E : Value → Shared → Prop}, Names X x c → Q c { s' with heap := h3 } → wpAny (model X.prog X.w) (X.A.mark (some (.ref a))) (eval (.Name x np) X.env) Q E { s' with heap := h3 } := fun hc q => by
      obtain ⟨z1, z2, z3 | ⟨z3, z4, z5⟩⟩ := hc
      · exact ld_glob (X := X.suite a ((a, oe3) :: (X.pn ++ pins))) S3 z1 z3 q z2
      · exact ld_blt (X := X.suite a ((a, oe3) :: (X.pn ++ pins))) S3 z1 z3 z4 q z5 z2
    have go : ∀ {hs' : List ExceptHandler} {l' : List Cl3}, Clauses X hs' l' → wMix X.K Wout D l' cls d σ' H' → wpAny (model X.prog X.w) X.A (handleBy (.ref a) X.env hs') (SP X pins D) X.xe { s' with heap := h3 } := by
      intro hs' l' hk
      induction hk with
      | nil =>
        intro w
        obtain ⟨_, _, _, oe, vs, T, oT, ts', he, hz, hd, h1, hr⟩ := id fl3
        refine wpAny_handleBy_nil ?_
        unfold PySem.passOn
        refine wpAny_bind (wpAny_field he hd h1 ?_)
        rw [if_neg (by simp)]
        have fin : wpAny (model X.prog X.w) X.A (setFlight (.ref a) X.env.frame) (fun _ s4 => wpAny (model X.prog X.w) X.A (throw (.ref a) : Sem Flow) (SP X pins D) X.xe s4) X.xe { s' with heap := h3 } := by
          rw [hf]
          exact HandSPX.setFlight_upZ fl3 fun h4 hh4 up4 => wpAny_throw (tk _ _ ⟨a, B, sI, pins, σ', H', cls, d, rfl, J, nb, (up.trans up3).trans up4, .inr (.inr (by rw [hs]; exact hh4)), na, os, ag, w⟩)
        first | exact wpAny_bind (wpAny_pure (wpAny_bind fin)) | exact wpAny_bind fin
      | @plain x c ts b₀ suite np pos' hds2 l2 hc hsu r ih =>
        rintro ⟨b, hb1, hy, hn⟩
        refine wpAny_handleBy_cons (codeAny_handlers_test (test hc ?_)) (by intro q; cases q)
        refine (PySem.W.exm_one (M := model X.prog X.w) J3.kIn (fun _ _ _ _ k q => wpAny_typeOf_ref (k _ _ he3) (by rw [hz3.1]; exact q)) hb1).here ?_
        cases b with
        | false => exact ih (hn rfl)
        | true =>
          refine codeAny_handlers_suite (HandSPX.lands_againZ fl3 fun h4 fl4 up4 => ?_)
          have J4 : Inv X pins σ' H' { s' with heap := h4 } := J.landed nb fl4.1 ((up.trans up3).trans up4) os ag
          obtain ⟨oe4, vs4, he4, hz4, hd4⟩ := fl4.there
          refine wpAny_mono ((hsu a oe4 cls d (X.pn ++ pins) hz4 ⟨_, hd4⟩).run [] _ _ H' _ (J4.suite he4 hd4 na nL nF) (hy rfl a na)) (fun f s6 hsp => ?_) (fun _ _ z => False.elim z)
          cases f with
          | ret u => obtain ⟨_, _, _, S6, r6, q6⟩ := hsp; exact ⟨_, _, _, S6.unsuite ok, r6, q6⟩
          | _ => obtain ⟨_, _, S6, q6⟩ := hsp; exact ⟨_, _, S6.unsuite ok, q6⟩
      | @named x n i c ts b₀ suite np pos' hds2 l2 hN hi hln hc hsu r ih =>
        rintro ⟨b, hb1, hy, hn⟩
        refine wpAny_handleBy_cons (codeAny_handlers_test (test hc ?_)) (by intro q; cases q)
        refine (PySem.W.exm_one (M := model X.prog X.w) J3.kIn (fun _ _ _ _ k q => wpAny_typeOf_ref (k _ _ he3) (by rw [hz3.1]; exact q)) hb1).here ?_
        cases b with
        | false => exact ih (hn rfl)
        | true =>
          refine codeAny_handlers_suite_as (HandSPX.lands_againZ fl3 fun h4 fl4 up4 => ?_)
          have J4 : Inv X pins σ' H' { s' with heap := h4 } := J.landed nb fl4.1 ((up.trans up3).trans up4) os ag
          obtain ⟨oe4, vs4, he4, hz4, hd4⟩ := fl4.there
          refine store_ok (X := X.suite a ((a, oe4) :: (X.pn ++ pins))) (v := .ref a) (J4.suite he4 hd4 na nL nF) hN hi (Or.inl hln : Loc X.env.scope n) rfl (fun s5 S5 => ?_) (.inr hln)
          refine wpAny_mono ((hsu a oe4 cls d (X.pn ++ pins) hz4 ⟨_, hd4⟩).run [] s5 _ H' _ S5 (hy rfl a na)) (fun f s6 hsp => ?_) (fun _ _ z => False.elim z)
          have gone : ∀ {σ6 : L2.St} {H6 : Hp} {Q : Shared → Prop}, Inv (X.suite a ((a, oe4) :: (X.pn ++ pins))) [] σ6 H6 s6 → (∀ s7, Inv X pins (σ6.set i none) H6 s7 → Q s7) → wpAny (model X.prog X.w) X.A (do bindName X.env n .none; unbindBehindTheSuite X.env n pos') (fun _ s7 => Q s7) X.xe s6 :=
            fun S6 hq => gone_ok (S6.unsuite ok) hN hi hln hq
          cases f with
          | ret u => obtain ⟨_, _, _, S6, r6, q6⟩ := hsp; exact gone S6 fun s7 J7 => ⟨_, _, _, J7, r6, q6⟩
          | _ => obtain ⟨_, _, S6, q6⟩ := hsp; exact gone S6 fun s7 J7 => ⟨_, _, J7, q6⟩
    exact go hh w
  · cases f with
    | next => obtain ⟨σ', H', J', q⟩ := hsp; exact wpAny_execs_nil ⟨σ', H', J'.ofTry ok, q⟩
    | ret u => obtain ⟨v, σ', H', J', r, q⟩ := hsp; exact ⟨v, σ', H', J'.ofTry ok, r, q⟩
    | _ => obtain ⟨σ', H', J', q⟩ := hsp; exact ⟨σ', H', J'.ofTry ok, q⟩
end
end OwX

/-! Readings, one step at a time: each row takes the outermost word of a reading away. -/
namespace Rd
open PySem PySem.Spec PyProof.Rows L2 OwX
section
variable {σ : L2.St} {H : Hp} {Q : VK} {i : Nat} {v x y : V} {te ta tb tc : TE} {tr t u : TT} {ts tu : TS} {D : Ends} {tl tl' : TA} {r r' : R2}
theorem var (h : σ[i]? = some (some v)) (q : Q v H) : tVar i σ H Q := ⟨v, h, q⟩
theorem con (q : Q v H) : tC v σ H Q := q
theorem op (q : ta σ H fun x H1 => tb σ H1 fun y H2 => r x y H2 Q) : tOp r ta tb σ H Q := q
theorem un {r : V → Hp → VK → Prop} (q : ta σ H fun x H1 => r x H1 Q) : tUn r ta σ H Q := q
theorem nil {Q : List V → Hp → Prop} (q : Q [] H) : tNil σ H Q := q
theorem cons {Q : List V → Hp → Prop} (q : te σ H fun x H1 => tl σ H1 fun xs H2 => Q (x :: xs) H2) : tCons te tl σ H Q := q
theorem tup (q : tl σ H fun xs H1 => xs.length ≤ sizeLine ∧ ∀ p, H1 p = none → Q (.ref p) (upd H1 p (.tup xs))) : tTup tl σ H Q := q
theorem lst (q : tl σ H fun xs H1 => xs.length ≤ sizeLine ∧ ∀ p, H1 p = none → Q (.ref p) (upd H1 p (.lst xs))) : tLst tl σ H Q := q
theorem lstN (q : tl σ H fun xs H1 => xs.length ≤ sizeLine ∧ ∀ p, H1 p = none → p ≠ sysModules → Q (.ref p) (upd H1 p (.lst xs))) : tLstN tl σ H Q := q
theorem cb {r : List V → Hp → VK → Prop} (q : tl σ H fun vs H1 => r vs H1 Q) : tCB r tl σ H Q := q
theorem call {sp : Sp} {dvs : List V} {E : XK} (q : tl σ H fun vs H1 => sp (vs ++ dvs) H1 Q E) : tCall sp dvs E tl σ H Q := q
theorem callS {sp : Sp} {E : L2.St → XK} (q : tl σ H fun vs H1 => sp vs H1 Q (E σ)) : tCallS sp E tl σ H Q := q
theorem seq (q : ts { D with nx := tu D } σ H) : tSeq ts tu D σ H := q
theorem asg {g : TG} (q : te σ H fun x H1 => g x σ H1 D.nx) : tAsg te g D σ H := q
theorem gn {Q : L2.St → Hp → Prop} (q : Q (σ.set i (some v)) H) : gName i v σ H Q := q
theorem gs {to ti : TE} {t : TSet} {Q : L2.St → Hp → Prop} (q : to σ H fun o H1 => ti σ H1 fun i H2 => t o i v H2 fun H3 => Q σ H3) : gSub to ti t v σ H Q := q
theorem ret (q : te σ H D.rt) : tRet te D σ H := q
theorem nxt (q : D.nx σ H) : tNext D σ H := q
theorem drop (q : te σ H fun _ H1 => D.nx σ H1) : tDrop te D σ H := q
theorem ifs (q : t σ H fun b H1 => if b = true then ts D σ H1 else tu D σ H1) : tIfS t ts tu D σ H := q
theorem ite (q : t σ H fun c H1 => if c = true then ta σ H1 Q else tb σ H1 Q) : tIf t ta tb σ H Q := q
theorem test {Q : Bool → Hp → Prop} (q : te σ H fun x H' => ∃ k, x = .bl k ∧ Q k H') : tTest te σ H Q := q
theorem tbb {Q : Bool → Hp → Prop} (q : te σ H fun x H1 => ∃ c, x = .bl c ∧ Q c H1) : tB te σ H Q := q
theorem bl {Q : Bool → Prop} {b : Bool} (q : Q b) : ∃ k, V.bl b = .bl k ∧ Q k := ⟨b, rfl, q⟩
theorem and {Q : Bool → Hp → Prop} (q : t σ H fun c H1 => if c = true then u σ H1 Q else Q false H1) : tAnd t u σ H Q := q
theorem or {Q : Bool → Hp → Prop} (q : t σ H fun c H1 => if c = true then Q true H1 else u σ H1 Q) : tOr t u σ H Q := q
theorem not {Q : Bool → Hp → Prop} (q : t σ H fun c H1 => Q (!c) H1) : tNot t σ H Q := q
theorem ii {g : Int → Int → V} {i j : Int} (q : Q (g i j) H) : rI0 g (.int i) (.int j) H Q := ⟨i, j, rfl, rfl, q⟩
theorem ic {C : Int → Int → Prop} {g : Int → Int → V} {i j : Int} (c : C i j) (q : Q (g i j) H) : rI C g (.int i) (.int j) H Q := ⟨i, j, rfl, rfl, c, q⟩
theorem iu {g : Int → V} {i : Int} (q : Q (g i) H) : rU g (.int i) H Q := ⟨i, rfl, q⟩
theorem eq (h : scal x y = true) (q : Q (.bl (decide (x = y))) H) : rEq x y H Q := ⟨h, q⟩
theorem ne (h : scal x y = true) (q : Q (.bl (!decide (x = y))) H) : rNe x y H Q := ⟨h, q⟩
theorem ixl {K : PySem.W.Frag} {p : Addr} {xs : List V} {i : Int} (h : SqL K H p xs) (e : atI xs i = some v) (q : Q v H) : rIxL K (.ref p) (.int i) H Q := ⟨p, xs, i, v, rfl, rfl, h, e, q⟩
theorem ixt {K : PySem.W.Frag} {p : Addr} {xs : List V} {i : Int} (h : SqT K H p xs) (e : atI xs i = some v) (q : Q v H) : rIxT K (.ref p) (.int i) H Q := ⟨p, xs, i, v, rfl, rfl, h, e, q⟩
theorem setl {p : Addr} {xs : List V} {k : Int} {j : Nat} {Q : Hp → Prop} (h : H p = some (.lst xs)) (e : ixN xs.length k = some j) (q : Q (upd H p (.lst (xs.set j v)))) : rSetL (.ref p) (.int k) v H Q := ⟨p, xs, k, j, rfl, rfl, h, e, q⟩
end
end Rd

/-! Data that stands in the tracked heap, what type it has, and comprehensions that map it. -/
namespace OwX
open PySem PySem.Spec PyProof.Rows L2
mutual
inductive Dh (H : Hp) : V → PyData → Prop
  | non : Dh H .non .none
  | bl (b : Bool) : Dh H (.bl b) (.bool b)
  | int (i : Int) : Dh H (.int i) (.int i)
  | str (x : Str) (h : x.length ≤ 1000) : Dh H (.str x) (.str x)
  | lst {a : Addr} {xs : List V} {ds : List PyData} (e : H a = some (.lst xs)) (n : a ≠ sysModules) (z : xs.length ≤ 1000) (r : DhAll H xs ds) : Dh H (.ref a) (.list ds)
  | tup {a : Addr} {xs : List V} {ds : List PyData} (e : H a = some (.tup xs)) (z : xs.length ≤ 1000) (r : DhAll H xs ds) : Dh H (.ref a) (.tuple ds)
  | dic {a : Addr} {kvs : List (Key × V)} {kds : List (PyData × PyData)} (e : H a = some (.dK kvs)) (r1 : DhAll H (kvs.map fun p => kV p.1) (kds.map (·.1))) (r2 : DhAll H (kvs.map (·.2)) (kds.map (·.2))) : Dh H (.ref a) (.dict kds)
inductive DhAll (H : Hp) : List V → List PyData → Prop
  | nil : DhAll H [] []
  | cons {v : V} {vs : List V} {d : PyData} {ds : List PyData} (h : Dh H v d) (r : DhAll H vs ds) : DhAll H (v :: vs) (d :: ds)
end
mutual
theorem Dh.dq {K : PySem.W.Frag} {H : Hp} : ∀ {v : V} {d : PyData}, Dh H v d → Dq K H v d
  | _, _, .non => .non
  | _, _, .bl b => .bl b
  | _, _, .int i => .int i
  | _, _, .str x _ => .str x
  | _, _, .lst e n _ r => .lst (SqL.of e) n (DhAll.dq r)
  | _, _, .tup e _ r => .tup (SqT.of e) (DhAll.dq r)
  | _, _, .dic e r1 r2 => .dic e (DhAll.dq r1) (DhAll.dq r2)
theorem DhAll.dq {K : PySem.W.Frag} {H : Hp} : ∀ {vs : List V} {ds : List PyData}, DhAll H vs ds → DqAll K H vs ds
  | _, _, .nil => .nil
  | _, _, .cons h r => .cons (Dh.dq h) (DhAll.dq r)
end
mutual
theorem Dh.mv {H H' : Hp} (e : Evl.Ex H H') : ∀ {v : V} {d : PyData}, Dh H v d → Dh H' v d
  | _, _, .non => .non
  | _, _, .bl b => .bl b
  | _, _, .int i => .int i
  | _, _, .str x h => .str x h
  | _, _, .lst h n z r => .lst (e _ _ h) n z (DhAll.mv e r)
  | _, _, .tup h z r => .tup (e _ _ h) z (DhAll.mv e r)
  | _, _, .dic h r1 r2 => .dic (e _ _ h) (DhAll.mv e r1) (DhAll.mv e r2)
theorem DhAll.mv {H H' : Hp} (e : Evl.Ex H H') : ∀ {vs : List V} {ds : List PyData}, DhAll H vs ds → DhAll H' vs ds
  | _, _, .nil => .nil
  | _, _, .cons h r => .cons (Dh.mv e h) (DhAll.mv e r)
end
theorem DhAll.len {H : Hp} : ∀ {vs : List V} {ds : List PyData}, DhAll H vs ds → vs.length = ds.length
  | _, _, .nil => rfl
  | _, _, .cons _ r => congrArg (· + 1) (DhAll.len r)
theorem DhAll.at {H : Hp} : ∀ {vs : List V} {ds : List PyData} {i : Nat} {v : V}, DhAll H vs ds → vs[i]? = some v → ∃ d, ds[i]? = some d ∧ Dh H v d
  | _, _, 0, _, .cons h _, e => ⟨_, rfl, by cases (show some _ = some _ from e); exact h⟩
  | _, _, i + 1, _, .cons _ r, e => DhAll.at (i := i) r e
def tyD : PyData → String
  | .none => "NoneType"
  | .bool _ => "bool"
  | .int _ => "int"
  | .str _ => "str"
  | .list _ => "list"
  | .tuple _ => "tuple"
  | .dict _ => "dict"
theorem Dh.ty {K : PySem.W.Frag} {H : Hp} {v : V} {d : PyData} (h : Dh H v d) : TyX K H v (.type (tyD d)) := by
  cases h with
  | non => exact .base .non
  | bl b => exact .base (.bl b)
  | int i => exact .base (.int i)
  | str x _ => exact .base (.str x)
  | lst e _ _ _ => exact .base (.lst e)
  | tup e _ _ => exact .base (.tup e)
  | dic e _ _ => exact .base (.dK e)
def isD (d : PyData) (n : String) : Bool := tyD d == n || (tyD d == "bool" && n == "int")
theorem kit_d (d : PyData) (n : String) (hn : n ∈ ["int", "bool", "str", "tuple", "dict", "list"]) : kitB (tyD d) n = some (isD d n) := by
  have z : ∀ t ∈ ["NoneType", "bool", "int", "str", "list", "tuple", "dict"], ∀ n ∈ ["int", "bool", "str", "tuple", "dict", "list"], kitB t n = some (t == n || (t == "bool" && n == "int")) := by decide +kernel
  exact z (tyD d) (by cases d <;> simp [tyD]) n hn
end OwX
namespace Rd
open PySem PySem.Spec PyProof.Rows L2 OwX Evl
section
variable {K : PySem.W.Frag} {σ : L2.St} {H : Hp} {Q : VK}
theorem isi {v : V} {d : PyData} {n : String} (h : Dh H v d) (hn : n ∈ ["int", "bool", "str", "tuple", "dict", "list"]) (q : Q (.bl (isD d n)) H) : rIsi K [v, .ty n] H Q := ⟨v, .ty n, _, .type n, _, rfl, .ty n, h.ty, kit_ty (kit_d d n hn), q⟩
theorem iteT {c A B : Prop} [Decidable c] (h : c) (a : A) : if c then A else B := by
  rw [if_pos h]
  exact a
theorem iteF {c A B : Prop} [Decidable c] (h : ¬ c) (b : B) : if c then A else B := by
  rw [if_neg h]
  exact b
theorem andv {ta tb : TE} (q : ta σ H fun x H1 => ∃ c, x = .bl c ∧ if c = true then tb σ H1 Q else Q (.bl false) H1) : tAndV ta tb σ H Q := q
theorem notv {ta : TE} (q : ta σ H fun x H1 => ∃ c, x = .bl c ∧ Q (.bl (!c)) H1) : tNotV ta σ H Q := q
theorem chain {r r' : R2} {ta tb tc : TE} (q : ta σ H fun x H1 => tb σ H1 fun y H2 => r x y H2 fun z H3 => ∃ k, z = .bl k ∧ (if k = true then tc σ H3 fun w' H4 => r' y w' H4 Q else Q (.bl false) H3)) : tChain r r' ta tb tc σ H Q := q
theorem lcm' {wi : TI} {g : TG} {tt : TT} {te : TE} {vs : List Nat} (q : wi σ H fun J H1 => ∀ D, H1 D = none → ∃ W : Nat → Nat → Hp → Prop, (∃ m, W 0 m (upd H1 D (.lst []))) ∧ ∀ i m H, W i m H →
  (J.stop i H ∧ Q (.ref D) H) ∨ (J.go i H ∧ ∃ Nx : Hp → Prop, (∀ H', Nx H' → ∃ m', m' < m ∧ W (i + 1) m' H') ∧ ∀ x H', J.yld i H x H' → g x (wipe σ vs) H' fun σ2 H2 => wipe σ2 vs = wipe σ vs ∧ tt σ2 H2 fun b H3 =>
    if b = true then te σ2 H3 fun y H4 => ∃ acc, H4 D = some (.lst acc) ∧ acc.length < sizeLine ∧ Nx (upd H4 D (.lst (acc ++ [y]))) else Nx H3)) : tLc wi g tt te vs σ H Q := q
theorem ilist' {tl : TE} {R : It → Hp → Prop} (q : tl σ H fun x H1 => ∃ a, x = .ref a ∧ (∃ xs, SqL K H1 a xs) ∧ R (Itl K a) H1) : iList K tl σ H R := q
theorem istr' {te : TE} {R : It → Hp → Prop} (q : te σ H fun v H1 => ∃ x, v = .str x ∧ R (Its x) H1) : iStr te σ H R := q
theorem irng' {ta : TA} {R : It → Hp → Prop} (q : ta σ H fun vs H1 => ∃ j : Int, vs = [.int j] ∧ -(2 ^ 62) ≤ j ∧ j < 2 ^ 62 ∧ R (Itr 0 j.toNat) H1) : iRng1 ta σ H R := q
/-- a comprehension without a test whose i-th element is f i, whatever the heap does beside -/
theorem lc_mapV {J : It} {n : Nat} {G : Hp → Prop} {Y : Nat → Hp → V → Hp → Prop} (wk : Walk J n G Y) (f : Nat → V) {te : TE} {j : Nat} {σ : L2.St} {H1 : Hp} {D : Addr} {Qd : Hp → Prop} (hD : H1 D = none) (hn : n ≤ 100000) (hG : ∀ H', Ex H1 H' → G H') (hw : ∀ x, wipe ((wipe σ [j]).set j (some x)) [j] = wipe σ [j])
    (hs : ∀ i x H H' R, i < n → Ex H1 H → Y i H x H' → (∀ H4, Ex H H4 → R (f i) H4) → te ((wipe σ [j]).set j (some x)) H' R) (hd : ∀ H, Ex H1 H → H D = some (.lst ((List.range n).map f)) → Qd H) :
    ∃ W : Nat → Nat → Hp → Prop, (∃ m, W 0 m (upd H1 D (.lst []))) ∧ ∀ i m H, W i m H →
      (J.stop i H ∧ Qd H) ∨ (J.go i H ∧ ∃ Nx : Hp → Prop, (∀ H', Nx H' → ∃ m', m' < m ∧ W (i + 1) m' H') ∧ ∀ x H', J.yld i H x H' → gName j x (wipe σ [j]) H' fun σ2 H2 => wipe σ2 [j] = wipe σ [j] ∧ tYes σ2 H2 fun b H3 =>
        if b = true then te σ2 H3 fun y H4 => ∃ acc, H4 D = some (.lst acc) ∧ acc.length < sizeLine ∧ Nx (upd H4 D (.lst (acc ++ [y]))) else Nx H3) := by
  refine lc_it wk (fun i H => Ex H1 H ∧ H D = some (.lst ((List.range i).map f))) ⟨Ex.new hD, upd_same⟩ (fun i H hi p => hG H p.1) (fun i x H H' hi p y => ⟨hw x, ?_⟩) (fun H p => hd H p.1 p.2)
  show te _ _ _
  refine hs i x H H' _ hi p.1 y fun H4 e4 => ⟨_, e4 _ _ p.2, ?_, (p.1.trans e4).mut hD, ?_⟩
  · simp only [List.length_map, List.length_range]
    exact sz_lt (by omega)
  · rw [List.range_succ, List.map_append]
    exact upd_same
/-- a comprehension with a test: the kept ones of the first i, in order -/
theorem lc_keep {J : It} {n : Nat} {G : Hp → Prop} {Y : Nat → Hp → V → Hp → Prop} (wk : Walk J n G Y) (p : Nat → Bool) (f : Nat → V) {tt : TT} {te : TE} {j : Nat} {σ : L2.St} {H1 : Hp} {D : Addr} {Qd : Hp → Prop} (hD : H1 D = none) (hn : n ≤ 100000) (hG : ∀ H', Ex H1 H' → G H') (hw : ∀ x, wipe ((wipe σ [j]).set j (some x)) [j] = wipe σ [j])
    (hs : ∀ i x H H' (R : Bool → Hp → Prop), i < n → Ex H1 H → Y i H x H' → (∀ H4, Ex H H4 → R (p i) H4) → tt ((wipe σ [j]).set j (some x)) H' R)
    (he : ∀ i x H H' H4 R, i < n → Ex H1 H → Y i H x H' → p i = true → Ex H H4 → (∀ H5, Ex H H5 → R (f i) H5) → te ((wipe σ [j]).set j (some x)) H4 R) (hd : ∀ H, Ex H1 H → H D = some (.lst (((List.range n).filter p).map f)) → Qd H) :
    ∃ W : Nat → Nat → Hp → Prop, (∃ m, W 0 m (upd H1 D (.lst []))) ∧ ∀ i m H, W i m H →
      (J.stop i H ∧ Qd H) ∨ (J.go i H ∧ ∃ Nx : Hp → Prop, (∀ H', Nx H' → ∃ m', m' < m ∧ W (i + 1) m' H') ∧ ∀ x H', J.yld i H x H' → gName j x (wipe σ [j]) H' fun σ2 H2 => wipe σ2 [j] = wipe σ [j] ∧ tt σ2 H2 fun b H3 =>
        if b = true then te σ2 H3 fun y H4 => ∃ acc, H4 D = some (.lst acc) ∧ acc.length < sizeLine ∧ Nx (upd H4 D (.lst (acc ++ [y]))) else Nx H3) := by
  refine lc_it wk (fun i H => Ex H1 H ∧ H D = some (.lst (((List.range i).filter p).map f))) ⟨Ex.new hD, upd_same⟩ (fun i H hi p => hG H p.1) (fun i x H H' hi pv y => ⟨hw x, ?_⟩) (fun H pv => hd H pv.1 pv.2)
  show tt _ _ _
  refine hs i x H H' _ hi pv.1 y fun H3 e3 => ?_
  have step : (List.range (i + 1)).filter p = (List.range i).filter p ++ (if p i = true then [i] else []) := by
    rw [List.range_succ, List.filter_append]
    by_cases c : p i = true <;> simp [c]
  by_cases c : p i = true
  · rw [if_pos c]
    rw [if_pos c] at step
    refine he i x H H' H3 _ hi pv.1 y c e3 fun H4 e4 => ⟨_, e4 _ _ pv.2, ?_, (pv.1.trans e4).mut hD, ?_⟩
    · have z : ((List.range i).filter p).length ≤ i := Nat.le_trans (List.length_filter_le _ _) (Nat.le_of_eq List.length_range)
      rw [List.length_map]
      exact sz_lt (by omega)
    · rw [step, List.map_append]
      exact upd_same
  · rw [if_neg c]
    rw [if_neg c, List.append_nil] at step
    rw [step]
    exact ⟨pv.1.trans e3, e3 _ _ pv.2⟩
end
end Rd

local macro_rules | `(tactic| walk_at "rd") => `(tactic| repeat (first
  | ((with_reducible refine' Rd.var ?hv ?_); (case hv => rfl)) | (with_reducible refine Rd.con ?_) | (with_reducible refine Rd.op ?_) | (with_reducible refine Rd.cons ?_) | (with_reducible refine Rd.nil ?_) | (with_reducible refine Rd.cb ?_) | (with_reducible refine Rd.seq ?_)
  | (with_reducible refine Rd.asg ?_) | (with_reducible refine Rd.gn ?_) | (with_reducible refine Rd.gs ?_) | (with_reducible refine Rd.ret ?_) | (with_reducible refine Rd.nxt ?_) | (with_reducible refine Rd.drop ?_) | (with_reducible refine Rd.ifs ?_) | (with_reducible refine Rd.ite ?_) | (with_reducible refine Rd.test ?_)
  | (with_reducible refine Rd.tbb ?_) | (with_reducible refine Rd.bl ?_) | (with_reducible refine Rd.and ?_) | (with_reducible refine Rd.or ?_) | (with_reducible refine Rd.not ?_) | (with_reducible refine Rd.ii ?_) | (with_reducible refine Rd.un ?_) | (with_reducible refine Rd.iu ?_) | (with_reducible refine Rd.call ?_) | (with_reducible refine Rd.callS ?_)
  | (with_reducible refine Rd.tup ?_) | (with_reducible refine Rd.lst ?_) | (with_reducible refine Rd.lstN ?_)))
namespace OwW
open PySem L2 OwX
abbrev sDice : Stmt := top 43
abbrev sRoll : Stmt := top 44
abbrev sPick : Stmt := top 45
/-- what stands in a law's dice -/
def DiceOk (l s n : Int) : Prop := 0 ≤ l ∧ 0 ≤ s ∧ 0 ≤ n
def dice (l s n : Int) : HO := .lst [.int l, .int s, .int n]
structure Blt (mg : Str → Option Value) : Prop where
  len : mg "len" = none
  int : mg "int" = none
  max : mg "max" = none
  min : mg "min" = none
  abs : mg "abs" = none
  range : mg "range" = none
def spRoll : Sp := fun vs H Q _ => ∃ (a : Addr) (l s n t : Int), vs = [.ref a, .int t] ∧ H a = some (dice l s n) ∧ DiceOk l s n ∧ 0 < t ∧ t ≤ 1000000 ∧ ∀ r l' s' n', 0 ≤ r → r < t → DiceOk l' s' n' → Q (.int r) (upd H a (dice l' s' n'))
section
variable {P : Program} {w : World} {K : PySem.W.Frag} {mg : Str → Option Value} {base : Heap}
theorem scRoll : FnScope ["_law_dice_here", "_law_total", "_law_found", "_law_one", "_law_two"] ["_law_dice_here", "_law_total"] (defScope sRoll) := ⟨rfl, rfl, rfl, by decide +kernel, rfl, by decide +kernel, by decide +kernel⟩
theorem ok_roll {f : Addr} {fd : FuncData} (F : Fun K "_law_roll" "_law_roll" sRoll f fd) (T : Blt mg) : FnOk P w K mg base CX0 1 f fd ["_law_dice_here", "_law_total"] spRoll := by
  have nd := scRoll.nd
  refine F.ok scRoll (fun vs H Q E h => ?_) (fun cdv A outer s H vs Q E hr h => ⟨_, (pss_cons (ps_if (pt_cmpR op_gt (pe_ix ix_list (pv 0) pe_int (fun _ _ => rfl)) pe_int (nomark _)) (pss_cons (ps_set (i := 2) nd rfl (Or.inl rfl) (pe_op op_mod (pe_callTy call_int1 (by rfl) T.int (by decide +kernel) (pa_cons (pe_ix ix_list (pv 0) pe_int (fun _ _ => rfl)) pa_nil)) (pv 1)))
    (pss_cons (ps_asg (pe_op op_fdiv (pe_ix ix_list (pv 0) pe_int (fun _ _ => rfl)) (pv 1)) (pg_sub (pv 0) pe_int set_list))
    (pss_one (ps_ret (pv 2))))) pss_nil)
    (pss_cons (ps_asg (pe_op op_add (pe_ix ix_list (pv 0) pe_int (fun _ _ => rfl)) pe_int) (pg_sub (pv 0) pe_int set_list))
    (pss_cons (ps_set (i := 3) nd rfl (Or.inl rfl) (pe_op op_mod (pe_callTy call_int1 (by rfl) T.int (by decide +kernel) (pa_cons (pe_op op_add (pe_ix ix_list (pv 0) pe_int (fun _ _ => rfl)) (pe_op op_mul pe_int (pe_ix ix_list (pv 0) pe_int (fun _ _ => rfl)))) pa_nil)) pe_int))
    (pss_cons (ps_set (i := 4) nd rfl (Or.inl rfl) (pe_op op_add (pe_op op_mul (pe_op op_mod (pe_callTy call_int1 (by rfl) T.int (by decide +kernel) (pa_cons (pe_op op_add (pe_op op_mul (pv 3) (pv 3)) (pe_op op_mul pe_int (pe_ix ix_list (pv 0) pe_int (fun _ _ => rfl)))) pa_nil)) pe_int) pe_int) (pv 3)))
    (pss_one (ps_ret (pe_op op_mod (pe_callTy call_int1 (by rfl) T.int (by decide +kernel) (pa_cons (pe_op op_fdiv (pv 4) pe_int) pa_nil)) (pv 1)))))))), ?_⟩)
  · obtain ⟨a, l, s, n, t, rfl, _⟩ := h
    rfl
  · obtain ⟨a, l, s, n, t, rfl, hH, ⟨hl, hs, hn⟩, ht, ht2, k⟩ := h
    have hS : SqL K H a [.int l, .int s, .int n] := SqL.of hH
    have e0 : ∀ x y z : Int, atI [V.int x, V.int y, V.int z] (0 : Int) = some (V.int x) := fun _ _ _ => rfl
    have e1 : ∀ x y z : Int, atI [V.int x, V.int y, V.int z] (1 : Int) = some (V.int y) := fun _ _ _ => rfl
    have e2 : ∀ x y z : Int, atI [V.int x, V.int y, V.int z] (2 : Int) = some (V.int z) := fun _ _ _ => rfl
    walk_at "rd"
    refine Rd.ixl hS (e0 _ _ _) ?_
    walk_at "rd"
    refine ite2 (fun c => ?_) (fun c => ?_)
    · have c' : 0 < l := of_decide_eq_true c
      walk_at "rd"
      refine Rd.ixl hS (e0 _ _ _) ?_
      walk_at "rd"
      refine Or.inl ⟨l, rfl, ?_⟩
      walk_at "rd"
      refine Rd.ic ht ?_
      walk_at "rd"
      refine Rd.ixl hS (e0 _ _ _) ?_
      walk_at "rd"
      refine Rd.ic ⟨ht, by omega⟩ ?_
      walk_at "rd"
      refine Rd.setl hH rfl ?_
      walk_at "rd"
      exact k _ _ _ _ (Int.emod_nonneg _ (by omega)) (Int.emod_lt_of_pos _ ht) ⟨Int.ediv_nonneg hl (by omega), hs, hn⟩
    · walk_at "rd"
      refine Rd.ixl hS (e2 _ _ _) ?_
      walk_at "rd"
      refine Rd.setl hH rfl ?_
      have hH2 : (upd H a (HO.lst ([V.int l, V.int s, V.int n].set (Int.toNat 2) (V.int (n + 1))))) a = some (dice l s (n + 1)) := upd_same
      have hS2 : SqL K (upd H a (HO.lst ([V.int l, V.int s, V.int n].set (Int.toNat 2) (V.int (n + 1))))) a [.int l, .int s, .int (n + 1)] := SqL.of hH2
      walk_at "rd"
      refine Rd.ixl hS2 (e1 _ _ _) ?_
      walk_at "rd"
      refine Rd.ixl hS2 (e2 _ _ _) ?_
      refine Rd.ic (Or.inl ⟨by decide, by decide⟩) ?_
      walk_at "rd"
      refine Or.inl ⟨_, rfl, ?_⟩
      walk_at "rd"
      refine Rd.ic (by decide) ?_
      generalize h1 : (s + 57885161 * (n + 1)) % 2305843009213693907 = one
      have b1 : 0 ≤ one ∧ one < 2305843009213693907 := by omega
      walk_at "rd"
      refine Rd.ic (Or.inl ⟨by omega, by omega⟩) ?_
      walk_at "rd"
      refine Rd.ixl hS2 (e2 _ _ _) ?_
      refine Rd.ic (Or.inl ⟨by decide, by decide⟩) ?_
      walk_at "rd"
      refine Or.inl ⟨_, rfl, ?_⟩
      walk_at "rd"
      refine Rd.ic (by decide) ?_
      walk_at "rd"
      refine Rd.ic (Or.inr ⟨by decide, by decide⟩) ?_
      walk_at "rd"
      refine Rd.ic ⟨by decide, by decide⟩ ?_
      walk_at "rd"
      refine Or.inl ⟨_, rfl, ?_⟩
      walk_at "rd"
      refine Rd.ic ht ?_
      exact k _ _ _ _ (Int.emod_nonneg _ (by omega)) (Int.emod_lt_of_pos _ ht) ⟨hl, hs, by omega⟩
theorem scPick : FnScope ["_law_dice_here", "_law_items"] ["_law_dice_here", "_law_items"] (defScope sPick) := ⟨rfl, rfl, rfl, by decide +kernel, rfl, by decide +kernel, by decide +kernel⟩
def spPick (K : PySem.W.Frag) : Sp := fun vs H Q _ => ∃ (a b : Addr) (l s n : Int) (xs : List V), vs = [.ref a, .ref b] ∧ a ≠ b ∧ H a = some (dice l s n) ∧ DiceOk l s n ∧ H b = some (.lst xs) ∧ 0 < xs.length ∧ xs.length ≤ 1000000 ∧ ∀ x l' s' n', x ∈ xs → DiceOk l' s' n' → Q x (upd H a (dice l' s' n'))
theorem rollBinds {f : Addr} {fd : FuncData} (F : Fun K "_law_roll" "_law_roll" sRoll f fd) : Binds K fd ["_law_dice_here", "_law_total"] [] := F.binds fun _ _ _ _ _ _ us hl => match us, hl with | [_, _], _ => rfl
theorem ok_pick {f fr : Addr} {fd fdr : FuncData} (F : Fun K "_law_pick" "_law_pick" sPick f fd) (T : Blt mg) (FR : Fun K "_law_roll" "_law_roll" sRoll fr fdr) (gR : mg "_law_roll" = some (.ref fr)) :
    FnOk P w K mg base CX0 2 f fd ["_law_dice_here", "_law_items"] (spPick K) := by
  have nd := scPick.nd
  have GR : FnOk P w K mg base CX0 1 fr fdr ["_law_dice_here", "_law_total"] spRoll := ok_roll FR T
  have bR := rollBinds FR
  refine F.ok scPick (fun vs H Q E h => ?_) (fun cdv A outer s H vs Q E hr h => ⟨_, (pss_one (ps_ret (pe_ix ix_list (pv 1) (pe_call GR hr rfl gR FR.kp bR .nil pass0 (pa_cons (pv 0) (pa_cons (pe_callB call_len_seq (by rfl) T.len (by decide +kernel) (pa_cons (pv 1) pa_nil)) pa_nil))) (fun _ _ => rfl)))), ?_⟩)
  · obtain ⟨a, b, l, s, n, xs, rfl, _⟩ := h
    rfl
  · obtain ⟨a, b, l, s, n, xs, rfl, hab, hH, hd, hb, h0, h1, k⟩ := h
    walk_at "rd"
    refine ⟨_, _, rfl, Or.inl (SqL.of hb), ?_⟩
    walk_at "rd"
    refine ⟨a, l, s, n, _, rfl, hH, hd, by omega, by omega, fun r l' s' n' r0 r1 hd' => ?_⟩
    have hb' : upd H a (dice l' s' n') b = some (.lst xs) := (upd_ne (Ne.symm hab)).trans hb
    obtain ⟨m, rfl⟩ := Int.eq_ofNat_of_zero_le r0
    have hm : m < xs.length := by omega
    refine Rd.ixl (SqL.of hb') (v := xs[m]) ?_ (k _ _ _ _ (List.getElem_mem hm) hd')
    exact atI_nat (List.getElem?_eq_getElem hm)
theorem scDice : FnScope ["_law_script", "_law_spot", "_law_cell", "_law_left"] ["_law_script", "_law_spot"] (defScope sDice) := ⟨rfl, rfl, rfl, by decide +kernel, rfl, by decide +kernel, by decide +kernel⟩
def spDice (K : PySem.W.Frag) : Sp := fun vs H Q _ => ∃ (a : Addr) (t : Int) (ns : List Int), vs = [.ref a, .int t] ∧ 0 ≤ t ∧ t ≤ 1000 ∧ SqL K H a (ns.map V.int) ∧ ∀ p l s, H p = none → p ≠ sysModules → DiceOk l s 0 → Q (.ref p) (upd H p (dice l s 0))
theorem sz3 (a b c : V) : [a, b, c].length ≤ sizeLine := by
  rw [sizeLine_eq]
  exact (by decide : 3 ≤ 16777216)
theorem ok_dice {f : Addr} {fd : FuncData} (F : Fun K "_law_dice" "_law_dice" sDice f fd) (T : Blt mg) : FnOk P w K mg base CX0 1 f fd ["_law_script", "_law_spot"] (spDice K) := by
  have nd := scDice.nd
  refine F.ok scDice (fun vs H Q E h => ?_) (fun cdv A outer s H vs Q E hr h => ⟨_, (pss_cons (ps_set (i := 2) nd rfl (Or.inl rfl) (pe_ifExp (pt_cmpR op_lt (pv 1) (pe_callB call_len_seq (by rfl) T.len (by decide +kernel) (pa_cons (pv 0) pa_nil)) (nomark _)) (pe_callTy call_int1 (by rfl) T.int (by decide +kernel) (pa_cons (pe_ix ix_list (pv 0) (pv 1) (fun _ _ => rfl)) pa_nil)) (pe_op op_add (pe_op op_mul pe_int (pv 1)) pe_int)))
    (pss_cons (ps_set (i := 3) nd rfl (Or.inl rfl) (pe_op op_mod (pe_callB (call_max2 rfl) (by rfl) T.max (by decide +kernel) (pa_cons pe_int (pa_cons (pe_op op_sub (pe_callB call_abs (by rfl) T.abs (by decide +kernel) (pa_cons (pv 2) pa_nil)) (pe_op op_pow pe_int pe_int)) pa_nil))) (pe_op op_mulW (pe_op op_pow pe_int pe_int) (pe_op op_pow pe_int pe_int))))
    (pss_one (ps_ret (pe_lstN (pa_cons (pv 3) (pa_cons (pe_op op_add (pe_op op_add (pe_op op_add (pe_op op_mul (pe_op op_mod (pe_callB call_abs (by rfl) T.abs (by decide +kernel) (pa_cons (pv 2) pa_nil)) pe_int) pe_int) (pe_op op_mul pe_int (pv 1))) (pe_op op_mul pe_int (pe_callTy call_int1 (by rfl) T.int (by decide +kernel) (pa_cons (pe_cmpR op_lt (pv 2) pe_int (nomark _)) pa_nil)))) pe_int) (pa_cons pe_int pa_nil)))))))), ?_⟩)
  · obtain ⟨a, t, ns, rfl, _⟩ := h
    rfl
  · obtain ⟨a, t, ns, rfl, h0, h1, hS, k⟩ := h
    walk_at "rd"
    refine ⟨_, _, rfl, Or.inl hS, ?_⟩
    walk_at "rd"
    refine ite2 (fun c => ?_) (fun c => ?_)
    have c' : t < ((ns.map V.int).length : Int) := of_decide_eq_true c
    obtain ⟨m, rfl⟩ := Int.eq_ofNat_of_zero_le h0
    have hm : m < ns.length := by rw [List.length_map] at c'; omega
    walk_at "rd"
    refine Rd.ixl hS (v := .int ns[m]) (atI_nat (by rw [List.getElem?_map, List.getElem?_eq_getElem hm]; rfl)) ?_
    walk_at "rd"
    refine Or.inl ⟨_, rfl, ?_⟩
    generalize ns[m] = z
    rotate_left
    walk_at "rd"
    refine Rd.ic (Or.inl ⟨by decide, by decide⟩) ?_
    generalize 59 * t + 31 = z
    all_goals
      walk_at "rd"
      refine ⟨_, rfl, ?_⟩
      walk_at "rd"
      refine Rd.ic ⟨by decide, by decide, by decide⟩ ?_
      walk_at "rd"
      refine ⟨_, _, rfl, ?_⟩
      walk_at "rd"
      refine Rd.ic ⟨by decide, by decide, by decide⟩ ?_
      walk_at "rd"
      refine Rd.ic ⟨by decide, by decide, by decide⟩ ?_
      refine Rd.ic (by unfold CMulW; decide +kernel) ?_
      refine Rd.ic (by decide +kernel) ?_
      walk_at "rd"
      refine ⟨_, rfl, ?_⟩
      walk_at "rd"
      refine Rd.ic (by decide) ?_
      walk_at "rd"
      refine Rd.ic (Or.inr ⟨by decide, by decide⟩) ?_
      walk_at "rd"
      refine Rd.ic (Or.inl ⟨by decide, by decide⟩) ?_
      walk_at "rd"
      refine Or.inr ⟨_, rfl, ?_⟩
      walk_at "rd"
      refine Rd.ic (Or.inl ⟨by decide, by decide⟩) ?_
      walk_at "rd"
      refine ⟨sz3 _ _ _, fun p hp hpm => k p _ _ hp hpm ⟨?_, ?_, by decide⟩⟩
      · exact Int.emod_nonneg _ (by decide)
      · have e1 := Int.emod_nonneg (if z < 0 then -z else z) (by decide : (1152921504606846883 : Int) ≠ 0)
        have e2 : (0 : Int) ≤ if decide (z < 0) = true then 1 else 0 := by split <;> decide
        omega
end
end OwW


namespace OwW
open PySem L2 L2H OwX Rd Evl
abbrev sName : Stmt := top 10
abbrev sNames : Stmt := top 11
def wholeD : PyData → Bool
  | .int _ => true
  | _ => false
def integerD : PyData → Bool
  | .int i => decide (i.natAbs < 10 ^ 60)
  | _ => false
def countD : PyData → Bool
  | .int i => decide (i.natAbs < 10 ^ 60) && decide (0 ≤ i)
  | _ => false
def letB (c : Nat) : Bool := (!decide ((⟨#[c]⟩ : Str).cps.toList < ("a" : Str).cps.toList)) && (!decide (("z" : Str).cps.toList < (⟨#[c]⟩ : Str).cps.toList))
def nameB (x : Str) : Bool := (decide (1 ≤ x.length) && decide (x.length ≤ 8)) && ((List.range x.cps.size).map fun i => letB (x.cps.getD i 0)).all id
def nameD : PyData → Bool
  | .str x => nameB x
  | _ => false
def namesD : PyData → Bool
  | .tuple ds => ds.all nameD
  | _ => false
def intOf : PyData → Option Int
  | .int i => some i
  | _ => none
def fracI : Option Int → Option Int → Bool
  | some a, some b => decide (1 ≤ b) && decide (Nat.gcd a.natAbs b.natAbs = 1)
  | _, _ => false
def fracD : PyData → Bool
  | .tuple [x, y] => fracI (intOf x) (intOf y)
  | _ => false
/-- a question about data -/
def spB (f : PyData → Bool) : Sp := fun vs H Q _ => ∃ (v : V) (d : PyData), vs = [v] ∧ Dh H v d ∧ ∀ H', Ex H H' → Q (.bl (f d)) H'
structure BltW (mg : Str → Option Value) : Prop where
  isinst : mg "isinstance" = none
  int : mg "int" = none
  bool : mg "bool" = none
  str : mg "str" = none
  tuple : mg "tuple" = none
  dict : mg "dict" = none
  len : mg "len" = none
  abs : mg "abs" = none
  all : mg "all" = none
  set : mg "set" = none
theorem isD_int (d : PyData) : (isD d "int" && !isD d "bool") = wholeD d := by cases d <;> simp [isD, tyD, wholeD]
section
variable {P : Program} {w : World} {K : PySem.W.Frag} {mg : Str → Option Value} {base : Heap}
end
end OwW


namespace OwW
open PySem L2 L2H OwX Rd Evl
theorem bls (n : Nat) (g : Nat → Bool) : ((List.range n).map fun i => V.bl (g i)) = ((List.range n).map g).map V.bl := by
  rw [List.map_map]
  rfl
theorem range_get {α β : Type} (g : α → β) (d0 : α) : ∀ ds : List α, ((List.range ds.length).map fun i => g (ds.getD i d0)) = ds.map g := fun ds => by
  apply List.ext_getElem
  · simp
  · intro i h1 h2
    simp at h1
    simp [List.getD_eq_getElem?_getD, List.getElem?_eq_getElem h1]
section
variable {P : Program} {w : World} {K : PySem.W.Frag} {mg : Str → Option Value} {base : Heap}
abbrev NN : List Str := ["value", "letter"]
theorem scName : FnScope NN ["value"] (defScope sName) := ⟨rfl, rfl, rfl, by decide +kernel, rfl, by decide +kernel, by decide +kernel⟩
theorem ok_name {f : Addr} {fd : FuncData} {tM : Tok} (F : Fun K "is_name" "is_name" sName f fd) (gM : mg "MAX_LETTERS" = some (.int 8 tM)) (T : BltW mg) : FnOk P w K mg base CX0 1 f fd ["value"] (spB nameD) := by
  have nd := scName.nd
  refine F.ok scName (fun vs H Q E h => ?_) (fun cdv A outer s H vs Q E hr h => ⟨_, (pss_cons (ps_if ((pw_or (pt_not (pt_val (pe_callB call_isi (by rfl) T.isinst (by decide +kernel) (pa_cons (pv 0) (pa_cons (pe_bltn (v := .ty "str") (by rfl) T.str (by decide +kernel) rfl) pa_nil))) (fun _ => rfl))) (pw_or1 (pt_not (pt_chain op_le op_le pe_int (pe_callB call_len_str (by rfl) T.len (by decide +kernel) (pa_cons (pv 0) pa_nil)) (pe_glob (v := .int 8) (by rfl) gM ⟨_, rfl⟩)))))).pt (pss_one (ps_ret pe_bl)) pss_nil)
    (pss_one (ps_ret (pe_callB (cr_all rfl) (by rfl) T.all (by decide +kernel) (pa_cons (pe_lc (own := [("letter", 1)]) (g := gName 1) (tt := tYes) rfl nd (pi_str (pv 0)) (blkOk_by (own := [("letter", 1)]) (N := NN) (sc := defScope sName) (by decide +kernel)) (fun _ _ _ _ _ => (pg_name (i := 1) nd rfl (Or.inl rfl))) (fun _ _ _ _ _ => pts_nil) (fun _ _ _ _ _ => (pe_chain op_le_str op_le_str pe_str (pv 1) pe_str))) pa_nil))))), ?_⟩)
  · obtain ⟨v, d, rfl, _⟩ := h
    rfl
  · obtain ⟨v, d, rfl, hd, k⟩ := h
    walk_at "rd"
    refine Rd.isi hd (by decide) ⟨_, rfl, ?_⟩
    cases hd with
    | str x hx =>
      refine Rd.iteF (by simp [isD, tyD]) ?_
      walk_at "rd"
      refine Rd.chain ?_
      walk_at "rd"
      refine ⟨x, rfl, sz_of (Nat.le_trans hx (by decide)), ?_⟩
      refine Rd.ii ⟨_, rfl, ?_⟩
      have no : (decide (1 ≤ x.length) && decide (x.length ≤ 8)) = false → nameD (.str x) = false := fun c => by
        show nameB x = false
        unfold nameB
        rw [c, Bool.false_and]
      refine ite2 (fun c1 => ?_) (fun c1 => ?_)
      · have c1' : 1 ≤ x.length := by
          have := of_decide_eq_true c1
          omega
        walk_at "rd"
        refine ite2 (fun c2 => ?_) (fun c2 => ?_)
        · have c2' : ¬ x.length ≤ 8 := by
            intro z
            have e : decide ((x.length : Int) ≤ 8) = true := decide_eq_true (by omega)
            rw [e] at c2
            cases c2
          walk_at "rd"
          have z := k H (Ex.refl H)
          rw [no (by rw [decide_eq_false c2', Bool.and_false])] at z
          exact z
        · have c2' : x.length ≤ 8 := by
            refine Decidable.byContradiction fun z => c2 ?_
            have e : decide ((x.length : Int) ≤ 8) = false := decide_eq_false (by omega)
            rw [e]
            rfl
          walk_at "rd"
          refine Rd.lcm' (Rd.istr' ?_)
          walk_at "rd"
          refine ⟨x, rfl, fun D hD => ?_⟩
          refine Rd.lc_mapV walk_str (fun i => V.bl (letB (x.cps.getD i 0))) hD (by show x.length ≤ _; omega) (fun _ _ => trivial) (fun _ => rfl) (fun i y Ha Hb R hi ea y1 hR => ?_) (fun H2 e2 h2 => ?_)
          · obtain ⟨rfl, cc, hc, rfl⟩ := y1
            have ec : x.cps.getD i 0 = cc := by
              rw [Array.getD_eq_getD_getElem?, hc]
              rfl
            rw [ec] at hR
            refine Rd.chain ?_
            walk_at "rd"
            refine ⟨_, _, rfl, rfl, _, rfl, ?_⟩
            have el : letB cc = ((!decide ((⟨#[cc]⟩ : Str).cps.toList < ("a" : Str).cps.toList)) && (!decide (("z" : Str).cps.toList < (⟨#[cc]⟩ : Str).cps.toList))) := rfl
            refine ite2 (fun c => ?_) (fun c => ?_)
            · walk_at "rd"
              refine ⟨_, _, rfl, rfl, ?_⟩
              have z := hR _ (Ex.refl _)
              rw [el, c, Bool.true_and] at z
              exact z
            · have z := hR _ (Ex.refl _)
              rw [el, (Bool.not_eq_true _).mp c, Bool.false_and] at z
              exact z
          · walk_at "rd"
            rw [bls] at h2
            refine ⟨_, _, rfl, SqL.of h2, ?_⟩
            have z := k H2 e2
            have e : nameD (.str x) = ((List.range x.cps.size).map fun i => letB (x.cps.getD i 0)).all id := by
              show nameB x = _
              unfold nameB
              rw [decide_eq_true c1', decide_eq_true c2', Bool.true_and, Bool.true_and]
            rw [e] at z
            exact z
      · have c1' : ¬ 1 ≤ x.length := by
          intro z
          exact c1 (decide_eq_true (by omega))
        walk_at "rd"
        refine Rd.iteT rfl ?_
        walk_at "rd"
        have z := k H (Ex.refl H)
        rw [no (by rw [decide_eq_false c1', Bool.false_and])] at z
        exact z
    | _ =>
      refine Rd.iteT (by simp [isD, tyD]) ?_
      refine Rd.iteT rfl ?_
      walk_at "rd"
      exact k H (Ex.refl H)
abbrev NS : List Str := ["value", "name"]
theorem scNames : FnScope NS ["value"] (defScope sNames) := ⟨rfl, rfl, rfl, by decide +kernel, rfl, by decide +kernel, by decide +kernel⟩
theorem ok_names {f g : Addr} {fd gd : FuncData} (F : Fun K "are_names" "are_names" sNames f fd) (FN : Fun K "is_name" "is_name" sName g gd) (gN : mg "is_name" = some (.ref g)) (GN : FnOk P w K mg base CX0 1 g gd ["value"] (spB nameD)) (T : BltW mg) : FnOk P w K mg base CX0 2 f fd ["value"] (spB namesD) := by
  have nd := scNames.nd
  have bN : Binds K gd ["value"] [] := FN.binds fun _ _ _ _ _ _ us hl => match us, hl with | [_], _ => rfl
  refine F.ok scNames (fun vs H Q E h => ?_) (fun cdv A outer s H vs Q E hr h => ⟨_, (pss_one (ps_ret (pe_and (pe_callB call_isi (by rfl) T.isinst (by decide +kernel) (pa_cons (pv 0) (pa_cons (pe_bltn (v := .ty "tuple") (by rfl) T.tuple (by decide +kernel) rfl) pa_nil))) (pe_one (pe_callB (cr_all rfl) (by rfl) T.all (by decide +kernel) (pa_cons (pe_lc (own := [("name", 1)]) (g := gName 1) (tt := tYes) rfl nd (pi_tup (pv 0)) (blkOk_by (own := [("name", 1)]) (N := NS) (sc := defScope sNames) (by decide +kernel)) (fun _ _ _ _ _ => (pg_name (i := 1) nd rfl (Or.inl rfl))) (fun _ _ _ _ _ => pts_nil) (fun _ _ _ _ _ => (pe_call GN (hr.mono (by decide)) (by rfl) gN FN.kp bN .nil pass0 (pa_cons (pv 1) pa_nil)))) pa_nil)))))), ?_⟩)
  · obtain ⟨v, d, rfl, _⟩ := h
    rfl
  · obtain ⟨v, d, rfl, hd, k⟩ := h
    walk_at "rd"
    refine Rd.andv ?_
    walk_at "rd"
    refine Rd.isi hd (by decide) ⟨_, rfl, ?_⟩
    cases hd with
    | @tup a xs ds he hz hr2 =>
      refine Rd.iteT rfl ?_
      walk_at "rd"
      refine Rd.lcm' ?_
      refine ⟨_, rfl, a, rfl, ⟨xs, SqT.of he⟩, fun D hD => ?_⟩
      refine Rd.lc_mapV (walk_tup (xs := xs)) (fun i => V.bl (nameD (ds.getD i .none))) hD (by omega) (fun H' e => ex_t e (SqT.of he)) (fun _ => rfl) (fun i y Ha Hb R hi ea y1 hR => ?_) (fun H2 e2 h2 => ?_)
      · obtain ⟨rfl, y2⟩ := y1
        obtain ⟨d, hd, hh⟩ := hr2.at y2
        walk_at "rd"
        refine ⟨y, d, rfl, Dh.mv ea hh, fun H4 e4 => ?_⟩
        have z := hR H4 e4
        have ed : ds.getD i .none = d := by rw [List.getD_eq_getElem?_getD, hd]; rfl
        rw [ed] at z
        exact z
      · walk_at "rd"
        rw [bls] at h2
        refine ⟨_, _, rfl, SqL.of h2, ?_⟩
        have z := k H2 e2
        have e : namesD (.tuple ds) = (((List.range xs.length).map fun i => nameD (ds.getD i .none))).all id := by
          rw [hr2.len, range_get nameD .none ds]
          show ds.all nameD = _
          rw [List.all_map]
          rfl
        rw [e] at z
        exact z
    | _ =>
      refine Rd.iteF (by simp [isD, tyD]) ?_
      exact k H (Ex.refl H)
end
end OwW

/-! Sets of texts: made of a list or a tuple, their number, their sorted list. -/
namespace OwT
open PySem PySem.Spec PyProof.Rows PySem.Froz L2
/-- the set object at a holds the texts l, each once; it can be walked -/
def TxS (P : Program) (w : World) (h : Heap) (a : Addr) (l : List Str) : Prop :=
  ∃ D : SD, h.get? a = some (sObj "set" D) ∧ TxOk P w D l ∧ l.Nodup ∧ Ris D.2.2.place.toList ∧ (w.params.followText "set-order" = true ∨ D.2.2.led = true)
/-- one more -/
def more (l : List Str) (k : Str) : List Str := if k ∈ l then l else k :: l
def once (xs : List Str) : List Str := xs.foldl more []
theorem once_take {xs : List Str} {i : Nat} {k : Str} (h : xs[i]? = some k) : once (xs.take (i + 1)) = more (once (xs.take i)) k := by
  unfold once
  rw [List.take_add_one, List.foldl_append, h]
  rfl
theorem more_len (l : List Str) (k : Str) : (more l k).length ≤ l.length + 1 := by
  unfold more
  split
  · omega
  · exact Nat.le_refl _
theorem fold_len : ∀ (xs l : List Str), (xs.foldl more l).length ≤ l.length + xs.length
  | [], l => Nat.le_refl _
  | k :: r, l => by
    have a := fold_len r (more l k)
    have b := more_len l k
    show (r.foldl more (more l k)).length ≤ _
    rw [List.length_cons]
    omega
theorem once_len (xs : List Str) : (once xs).length ≤ xs.length := by
  have := fold_len xs []
  simpa [once] using this
theorem more_nodup {l : List Str} (h : l.Nodup) (k : Str) : (more l k).Nodup := by
  unfold more
  split
  · exact h
  · rename_i c
    exact List.nodup_cons.mpr ⟨c, h⟩
theorem fold_mem : ∀ (xs l : List Str) (z : Str), z ∈ xs.foldl more l ↔ z ∈ l ∨ z ∈ xs
  | [], l, z => by simp
  | k :: r, l, z => by
    rw [List.foldl_cons, fold_mem r]
    unfold more
    split
    · rename_i c
      constructor
      · rintro (h | h)
        · exact .inl h
        · exact .inr (List.mem_cons_of_mem _ h)
      · rintro (h | h)
        · exact .inl h
        · rcases List.mem_cons.mp h with rfl | h
          · exact .inl c
          · exact .inr h
    · simp only [List.mem_cons]
      constructor
      · rintro ((h | h) | h)
        · exact .inr (.inl h)
        · exact .inl h
        · exact .inr (.inr h)
      · rintro (h | h | h)
        · exact .inl (.inr h)
        · exact .inl (.inl h)
        · exact .inr h
theorem once_mem (xs : List Str) (z : Str) : z ∈ once xs ↔ z ∈ xs := by
  have := fold_mem xs [] z
  simpa [once] using this
theorem fold_nodup : ∀ (xs l : List Str), l.Nodup → (xs.foldl more l).Nodup
  | [], _, h => h
  | k :: r, l, h => fold_nodup r (more l k) (more_nodup h k)
theorem once_nodup (xs : List Str) : (once xs).Nodup := fold_nodup xs [] List.nodup_nil
section
variable {P : Program} {w : World} {A : Around} {E : Value → Shared → Prop} {s : Shared}
theorem TxS.at {h h' : Heap} {a : Addr} {l : List Str} (R : TxS P w h a l) (k : ∀ o, h.get? a = some o → h'.get? a = some o) : TxS P w h' a l := by
  obtain ⟨D, g, rest⟩ := R
  exact ⟨D, k _ g, rest⟩
theorem tail_ris {ep : Nat} {es : Array (Int × Value)} {t : SetTable} {d : Bool} (r : Ris t.place.toList) : Ris (tailTx ep es t d).2.2.place.toList ∧ (tailTx ep es t d).2.2.led = t.led := by
  unfold tailTx
  split
  · exact ⟨relayAll_ris _ _ _, relayAll_led _ _ _⟩
  · exact ⟨r, rfl⟩
theorem add_ris {h : Int} {v : Value} {D : SD} (r : Ris D.2.2.place.toList) : Ris (addTx h v D).2.2.place.toList ∧ (addTx h v D).2.2.led = D.2.2.led := by
  have r1 := layNew_ris D.2.2 D.1 h v r
  have l1 := layNew_led D.2.2 D.1 h v
  unfold addTx
  split
  · obtain ⟨a, b⟩ := tail_ris (ep := D.2.1) (es := (layNew D.2.2 D.1 h v).1) (t := { (layNew D.2.2 D.1 h v).2.1 with plain := false }) (d := (layNew D.2.2 D.1 h v).2.2.1) r1
    exact ⟨a, b.trans l1⟩
  · obtain ⟨a, b⟩ := tail_ris (ep := D.2.1) (es := (layNew D.2.2 D.1 h v).1) (d := (layNew D.2.2 D.1 h v).2.2.1) r1
    exact ⟨a, b.trans l1⟩
/-- a text that is there already: nothing changes -/
theorem keep_x {a : Addr} {D : SD} {l : List Str} {k : Str} {u : Tok} {Q : Bool → Shared → Prop} (ho : s.heap.get? a = some (sObj "set" D)) (F : TxOk P w D l) (hk : k ∈ l) (hb : l.length < scanBound) (h : Q false s) : wpAny (model P w) A (setAddHashed a (.str k u) (hashStr w k)) Q E s := by
  obtain ⟨es, ep, t⟩ := D
  have fd : (sObj "set" (es, ep, t)).data = .set es ep t := rfl
  have ff : t.fits es.size = true := F.fit
  have fe : ElemsOf (strKind P w) es.toList := F.el
  have fz : es.size = l.length := F.sz
  have fb : es.size < scanBound := by omega
  obtain ⟨e, he, hp⟩ := (F.mem k).mp hk
  obtain ⟨j, hj⟩ : ∃ j, List.findIdx? (fun e => (strKind P w).is k e.2) es.toList = some j := by
    cases q : List.findIdx? (fun e => (strKind P w).is k e.2) es.toList with
    | some j => exact ⟨j, rfl⟩
    | none =>
      have z := List.findIdx?_eq_none_iff.mp q e he
      rw [hp] at z
      cases z
  unfold setAddHashed setAddHashedIn
  refine wpAny_holding (wpAny_bind (wpAny_setState_of ho fd ff ?_))
  dsimp only
  rw [byScan_of rfl fb fe]
  simp only [↓reduceIte]
  unfold setAddByScan
  refine wpAny_bind ?_
  refine wpAny_bind (wpAny_rule ?_)
  refine wpAny_bind (wpAny_setScan_of (knd := strKind P w) (k := k) (is_str k u) ho fd ff fe ?_)
  rw [hj]
  exact wpAny_pure (wpAny_pure h)
/-- s.add(k), k in or not -/
theorem add_one {a : Addr} {l : List Str} {k : Str} {u : Tok} {Q : Bool → Shared → Prop} (R : TxS P w s.heap a l) (hb : l.length + 1 < scanBound)
    (h : ∀ b h', (∀ c, c ≠ a → ∀ o, s.heap.get? c = some o → h'.get? c = some o) → TxS P w h' a (more l k) → Q b { s with heap := h', toks := s.toks + 1 }) : wpAny (model P w) A (setAdd a (.str k u)) Q E s := by
  obtain ⟨D, g, F, nd, r, ld⟩ := R
  unfold setAdd
  refine wpAny_holding (wpAny_bind ((strKind P w).pyHash (k := k) (is_str k u) ?_))
  by_cases c : k ∈ l
  · refine keep_x (s := { s with toks := s.toks + 1 }) g F c (by omega) (h false s.heap (fun _ _ _ e => e) ?_)
    unfold more
    rw [if_pos c]
    exact ⟨D, g, F, nd, r, ld⟩
  · obtain ⟨r2, l2⟩ := add_ris (h := hashStr w k) (v := .str k u) r
    refine add_x (s := { s with toks := s.toks + 1 }) g F c hb (h true _ (fun c hc o e => (Heap.get?_update_ne _ _ _ _ hc).trans e) ?_)
    unfold more
    rw [if_neg c]
    exact ⟨_, get_upd _ g rfl, add_ok u F, List.nodup_cons.mpr ⟨c, nd⟩, r2, by rw [l2]; exact ld⟩
end
section
variable {P : Program} {w : World} {A : Around} {R : Result → Shared → Prop} {I : Addr} {fp wr : List Addr} {G : Array GenState → Array GenState → Prop} {n : Nat} {Pv : Nat → Value → Prop} {St : Nat → Shared → Prop}
/-- the loop that fills the set -/
theorem fill (W : WalksS P w A.in1 I fp wr G n Pv St) {S : Addr} (out : S ∉ fp) {xs : List Str} (hn : xs.length = n) (hb : n + 1 < scanBound) (hv : ∀ i v, Pv i v → ∃ k t, xs[i]? = some k ∧ v = .str k t) :
    ∀ (m i : Nat) (s : Shared), i + m = n → St i s → TxS P w s.heap S (once (xs.take i)) → (∀ s', Moved (S :: wr) G s s' → TxS P w s'.heap S (once xs) → R (.ok (.ret .none)) s') →
      codeAny (model P w) A (.builtin "set.update.loop" ⟨[.ref S, .ref I], []⟩) R s := by
  have out2 : S ∉ wr := fun z => out (W.sub _ z)
  have wider : ∀ b ∈ wr, b ∈ S :: wr := fun b z => List.mem_cons_of_mem _ z
  intro m
  induction m with
  | zero =>
    intro i s e st T k
    obtain rfl : i = n := by omega
    rw [← hn, List.take_length] at T
    refine codeAny_builtin PyProof.Rows.F.entry_set_update_loop ?_
    rw [Around.under_plainId PyProof.Rows.F.plain_set_update_loop _]
    exact wpAny_bind (W.done s _ _ st fun s' mv => wpAny_pure (k s' (mv.mono wider) (T.at fun o q => mv.heap S o out2 q)))
  | succ m ih =>
    intro i s e st T k
    refine codeAny_builtin PyProof.Rows.F.entry_set_update_loop ?_
    rw [Around.under_plainId PyProof.Rows.F.plain_set_update_loop _]
    refine wpAny_bind (W.item i s _ _ (by omega) st fun v s1 pv st1 mv => ?_)
    obtain ⟨x, t, hx, rfl⟩ := hv i v pv
    have T1 := T.at fun o q => mv.heap S o out2 q
    have room : (once (xs.take i)).length + 1 < scanBound := by
      have a := once_len (xs.take i)
      have b : (xs.take i).length ≤ i := List.length_take_le i xs
      omega
    refine wpAny_bind (wpAny_holding (add_one (k := x) T1 room fun b h' kp T2 => ?_))
    rw [← once_take hx] at T2
    refine wpAny_pure ⟨plainId_quiet PyProof.Rows.F.plain_set_update_loop _, ih (i + 1) _ (by omega) (W.frame _ s1 _ _ st1 (Nat.le_succ _) fun c hc o q => kp c (fun z => out (z ▸ hc)) o q) T2 fun s2 mv2 T3 => ?_⟩
    exact k s2 (Moved.trans W.gtrans ((mv.mono wider).then_heap (Nat.le_succ _) fun c o hc q => kp c (fun z => hc (z ▸ List.mem_cons_self)) o q) mv2) T3
end
end OwT

namespace OwT
open PySem PySem.Spec PyProof.Rows PySem.Froz L2
def fresh (w : World) : Obj := { cls := .type "set", dict := none, data := .set #[] 0 (.fresh 0 0 (!w.params.followText "set-order")) }
theorem fresh_led (w : World) : w.params.followText "set-order" = true ∨ (SetTable.fresh 0 0 (!w.params.followText "set-order")).led = true := by
  show _ ∨ (!w.params.followText "set-order") = true
  cases w.params.followText "set-order" <;> simp
section
variable {P : Program} {w : World} {A : Around} {E : Value → Shared → Prop} {s : Shared}
theorem new_led (a : Value) {Q₁ : Value → Shared → Prop} (h : Q₁ (.ref s.heap.objs.size) { s with heap := s.heap.push (fresh w) }) : codeAny (model P w) A (.call (.builtin "set.__new__") ⟨[.type "set", a], []⟩) (wants Q₁ E) s := by
  refine codeAny_of_tree (wpAny_bind (wpAny_of_eq (PySem.F.newCall_set_1 a) (wpAny_pure ⟨plainId_quiet PySem.F.plain_set_new _, codeAny_builtin PySem.F.entry_set_new ?_⟩)))
  rw [Around.under_plainId PySem.F.plain_set_new _]; unfold Builtin.«set.__new__» Builtin.Frozenset.newClass
  have hsub := sub_set_self
  obtain ⟨hp, g, d, tk, os⟩ := s; dsimp only
  wp_walk
  refine wpAny_askSetting (wpAny_pure ?_); dsimp only
  simp only [newObj]; exact wpAny_bind (wpAny_alloc (wpAny_pure (wpAny_pure h)))
theorem set_list {l : Addr} {its : Array Value} {xs : List Str} {Q : Value → Shared → Prop} (hh : A.handled = none) (hl : s.heap.IsList l its) (hi : StrsAre its.toList xs) (hb : xs.length + 1 < scanBound)
    (h : ∀ h' tk, TxS P w h' s.heap.objs.size (once xs) → (∀ b o, s.heap.get? b = some o → h'.get? b = some o) → s.heap.objs.size < h'.objs.size → Q (.ref s.heap.objs.size) { s with heap := h', toks := tk }) : wpAny (model P w) A (call (.type "set") [.ref l]) Q E s := by
  obtain ⟨cc, tl, hmro⟩ := PySem.F.called_set.mro
  have hmade := PySem.F.called_set.made; have hsub := PySem.F.called_set.sub; have h1 := PySem.F.called_set.notType; have h2 := PySem.F.called_set.canCreate; have hct := PySem.F.typeCall_set_1 (.ref l)
  refine wpAny_call (codeAny_of_tree (wpAny_pure ⟨Code.quiet_builtin _ (by decide +kernel), codeAny_builtin PySem.F.entry_type_call ?_⟩))
  rw [Around.under_plain (weight_type_call_type "set" [.ref l] []) rfl]
  repeat (any_goals (first | assumption | wp_step))
  refine codeAny_mono (new_led (.ref l) (E := E) (Q₁ := fun o s1 => o = .ref s.heap.objs.size ∧ s1 = { s with heap := s.heap.push (fresh w) }) ⟨rfl, rfl⟩) fun r s1 hr => ?_
  rcases r with er | fl
  · exact hr
  rcases fl with _ | _ | _ | ob
  · exact hr.elim
  · exact hr.elim
  · exact hr.elim
  obtain ⟨rfl, rfl⟩ := hr
  have hS : (s.heap.push (fresh w)).get? s.heap.objs.size = some (fresh w) := Heap.get?_push_size _ rfl
  have hT : Shared.TypeIs { s with heap := s.heap.push (fresh w) } (.ref s.heap.objs.size) "set" := ⟨_, hS, rfl⟩
  have hli := PySem.F.called_set.init.lookup; have hbi := PySem.F.called_set.init.bind (.ref s.heap.objs.size)
  repeat (any_goals (first | assumption | wp_step))
  refine codeAny_mono (codeAny_call_builtin (R := wants (fun r s2 => r = .none ∧ ∃ h' tk, s2 = { s with heap := h', toks := tk } ∧ TxS P w h' s.heap.objs.size (once xs) ∧ (∀ b o, s.heap.get? b = some o → h'.get? b = some o) ∧ s.heap.objs.size < h'.objs.size) E) PySem.F.called_set.init.plain PySem.F.entry_set_init (check_set_init_1 hT ?_)) fun r2 s2 hr2 => ?_
  rotate_left
  · rcases r2 with er | fl2
    · exact hr2
    rcases fl2 with _ | _ | _ | rv
    · exact hr2.elim
    · exact hr2.elim
    · exact hr2.elim
    obtain ⟨rfl, h', tk, rfl, g1, g2, g3⟩ := hr2
    repeat (any_goals (first | assumption | wp_step))
    exact h _ _ g1 g2 g3
  obtain ⟨ol, hol, hcl, nl, hdl⟩ := hl
  have lt : l < s.heap.objs.size := Heap.lt_size hol
  obtain ⟨c1, c2, c3, c4⟩ := ol
  dsimp only at hcl hdl
  subst hcl hdl
  have hol2 : (s.heap.push (fresh w)).get? l = some { cls := .type "list", dict := c2, data := .seq its nl, slots := c4 } := Heap.get?_push_of_some _ hol
  have hq : (s.heap.push (fresh w)).IsList l its := ⟨_, hol2, rfl, nl, rfl⟩
  have hsl1 := PySem.F.sub_list_set; have hsl2 := PySem.F.sub_list_frozenset
  have hne : (Value.type "list" == Value.type "dict") = false := by decide
  unfold Builtin.«set.__init__» noKeywords Builtin.Frozenset.updateFrom; generalize hPI : pyIter = PI
  wp_walk
  subst hPI
  refine wpAny_pyIter_list hq (wpAny_bind (wpAny_runValue ?_))
  have sz1 : (s.heap.push (fresh w)).objs.size = s.heap.objs.size + 1 := Heap.size_push _ _
  have hI : l ≠ (s.heap.push (fresh w)).objs.size := by rw [sz1]; exact Nat.ne_of_lt (Nat.lt_succ_of_lt lt)
  have hout : s.heap.objs.size ∉ [(s.heap.push (fresh w)).objs.size, l] := by rw [sz1]; simp only [List.mem_cons, List.not_mem_nil, or_false, not_or]; exact ⟨Nat.ne_of_lt (Nat.lt_succ_self _), Nat.ne_of_gt lt⟩
  have hz : xs.length = its.size := by rw [← StrsAre.len_eq hi, Array.length_toList]
  have hv : ∀ (i : Nat) (v : Value), its[i]? = some v → ∃ k t, xs[i]? = some k ∧ v = .str k t := fun i v e => by
    obtain ⟨t, e2⟩ := SS.strs_at hi i v (by rw [Array.getElem?_toList]; exact e)
    have lt2 : i < xs.length := by rw [hz]; exact (Array.getElem?_eq_some_iff.mp e).1
    refine ⟨xs[i], t, List.getElem?_eq_getElem lt2, ?_⟩
    rw [e2, List.getD_eq_getElem?_getD, List.getElem?_eq_getElem lt2]
    rfl
  refine fill ((Walks.list (by simp [hh]) _ l hI its).toS) hout hz (by rw [← hz]; exact hb) hv its.size 0 _ (Nat.zero_add _) ⟨⟨_, Heap.get?_push_size _ rfl, rfl, rfl⟩, hq.push _⟩ ?_ ?_
  · exact ⟨(#[], 0, .fresh 0 0 (!w.params.followText "set-order")), Heap.get?_push_of_some _ hS, TxOk.nil rfl, List.nodup_nil, List.Pairwise.nil, fresh_led w⟩
  · intro s3 mv T3
    obtain ⟨h3, g3, d3, t3, o3⟩ := s3
    obtain rfl : g3 = s.gens := mv.gens
    obtain rfl : d3 = s.drawn := mv.drawn
    obtain rfl : o3 = s.os := mv.os
    refine wpAny_pure (wpAny_pure ⟨rfl, h3, t3, rfl, T3, fun b o e => ?_, ?_⟩)
    · have lb := Heap.lt_size e
      refine mv.heap b o (fun z => ?_) (Heap.get?_push_of_some _ (Heap.get?_push_of_some _ e))
      simp only [List.mem_cons, List.not_mem_nil, or_false] at z
      rcases z with z | z
      · exact absurd (z ▸ lb) (Nat.lt_irrefl _)
      · rw [sz1] at z
        have z2 : @Eq Nat b (s.heap.objs.size + 1) := z
        have lb2 : @LT.lt Nat _ b s.heap.objs.size := lb
        omega
    · obtain ⟨D, g, _⟩ := T3
      exact Heap.lt_size g
theorem set_tuple {l : Addr} {its : Array Value} {xs : List Str} {Q : Value → Shared → Prop} (hh : A.handled = none) (hl : s.heap.IsTuple l its) (hi : StrsAre its.toList xs) (hb : xs.length + 1 < scanBound)
    (h : ∀ h' tk, TxS P w h' s.heap.objs.size (once xs) → (∀ b o, s.heap.get? b = some o → h'.get? b = some o) → s.heap.objs.size < h'.objs.size → Q (.ref s.heap.objs.size) { s with heap := h', toks := tk }) : wpAny (model P w) A (call (.type "set") [.ref l]) Q E s := by
  obtain ⟨cc, tl, hmro⟩ := PySem.F.called_set.mro
  have hmade := PySem.F.called_set.made; have hsub := PySem.F.called_set.sub; have h1 := PySem.F.called_set.notType; have h2 := PySem.F.called_set.canCreate; have hct := PySem.F.typeCall_set_1 (.ref l)
  refine wpAny_call (codeAny_of_tree (wpAny_pure ⟨Code.quiet_builtin _ (by decide +kernel), codeAny_builtin PySem.F.entry_type_call ?_⟩))
  rw [Around.under_plain (weight_type_call_type "set" [.ref l] []) rfl]
  repeat (any_goals (first | assumption | wp_step))
  refine codeAny_mono (new_led (.ref l) (E := E) (Q₁ := fun o s1 => o = .ref s.heap.objs.size ∧ s1 = { s with heap := s.heap.push (fresh w) }) ⟨rfl, rfl⟩) fun r s1 hr => ?_
  rcases r with er | fl
  · exact hr
  rcases fl with _ | _ | _ | ob
  · exact hr.elim
  · exact hr.elim
  · exact hr.elim
  obtain ⟨rfl, rfl⟩ := hr
  have hS : (s.heap.push (fresh w)).get? s.heap.objs.size = some (fresh w) := Heap.get?_push_size _ rfl
  have hT : Shared.TypeIs { s with heap := s.heap.push (fresh w) } (.ref s.heap.objs.size) "set" := ⟨_, hS, rfl⟩
  have hli := PySem.F.called_set.init.lookup; have hbi := PySem.F.called_set.init.bind (.ref s.heap.objs.size)
  repeat (any_goals (first | assumption | wp_step))
  refine codeAny_mono (codeAny_call_builtin (R := wants (fun r s2 => r = .none ∧ ∃ h' tk, s2 = { s with heap := h', toks := tk } ∧ TxS P w h' s.heap.objs.size (once xs) ∧ (∀ b o, s.heap.get? b = some o → h'.get? b = some o) ∧ s.heap.objs.size < h'.objs.size) E) PySem.F.called_set.init.plain PySem.F.entry_set_init (check_set_init_1 hT ?_)) fun r2 s2 hr2 => ?_
  rotate_left
  · rcases r2 with er | fl2
    · exact hr2
    rcases fl2 with _ | _ | _ | rv
    · exact hr2.elim
    · exact hr2.elim
    · exact hr2.elim
    obtain ⟨rfl, h', tk, rfl, g1, g2, g3⟩ := hr2
    repeat (any_goals (first | assumption | wp_step))
    exact h _ _ g1 g2 g3
  obtain ⟨ol, hol, hcl, nl, hdl⟩ := hl
  have lt : l < s.heap.objs.size := Heap.lt_size hol
  obtain ⟨c1, c2, c3, c4⟩ := ol
  dsimp only at hcl hdl
  subst hcl hdl
  have hol2 : (s.heap.push (fresh w)).get? l = some { cls := .type "tuple", dict := c2, data := .seq its nl, slots := c4 } := Heap.get?_push_of_some _ hol
  have hq : (s.heap.push (fresh w)).IsTuple l its := ⟨_, hol2, rfl, nl, rfl⟩
  have hsl1 := PySem.F.sub_tuple_set; have hsl2 := PySem.F.sub_tuple_frozenset
  have hne : (Value.type "tuple" == Value.type "dict") = false := by decide
  unfold Builtin.«set.__init__» noKeywords Builtin.Frozenset.updateFrom; generalize hPI : pyIter = PI
  wp_walk
  subst hPI
  refine wpAny_pyIter_tuple hq (wpAny_bind (wpAny_runValue ?_))
  have sz1 : (s.heap.push (fresh w)).objs.size = s.heap.objs.size + 1 := Heap.size_push _ _
  have hI : l ≠ (s.heap.push (fresh w)).objs.size := by rw [sz1]; exact Nat.ne_of_lt (Nat.lt_succ_of_lt lt)
  have hout : s.heap.objs.size ∉ [(s.heap.push (fresh w)).objs.size, l] := by rw [sz1]; simp only [List.mem_cons, List.not_mem_nil, or_false, not_or]; exact ⟨Nat.ne_of_lt (Nat.lt_succ_self _), Nat.ne_of_gt lt⟩
  have hz : xs.length = its.size := by rw [← StrsAre.len_eq hi, Array.length_toList]
  have hv : ∀ (i : Nat) (v : Value), its[i]? = some v → ∃ k t, xs[i]? = some k ∧ v = .str k t := fun i v e => by
    obtain ⟨t, e2⟩ := SS.strs_at hi i v (by rw [Array.getElem?_toList]; exact e)
    have lt2 : i < xs.length := by rw [hz]; exact (Array.getElem?_eq_some_iff.mp e).1
    refine ⟨xs[i], t, List.getElem?_eq_getElem lt2, ?_⟩
    rw [e2, List.getD_eq_getElem?_getD, List.getElem?_eq_getElem lt2]
    rfl
  refine fill ((Walks.tuple (by simp [hh]) _ l hI its).toS) hout hz (by rw [← hz]; exact hb) hv its.size 0 _ (Nat.zero_add _) ⟨⟨_, Heap.get?_push_size _ rfl, rfl, rfl⟩, hq.push _⟩ ?_ ?_
  · exact ⟨(#[], 0, .fresh 0 0 (!w.params.followText "set-order")), Heap.get?_push_of_some _ hS, TxOk.nil rfl, List.nodup_nil, List.Pairwise.nil, fresh_led w⟩
  · intro s3 mv T3
    obtain ⟨h3, g3, d3, t3, o3⟩ := s3
    obtain rfl : g3 = s.gens := mv.gens
    obtain rfl : d3 = s.drawn := mv.drawn
    obtain rfl : o3 = s.os := mv.os
    refine wpAny_pure (wpAny_pure ⟨rfl, h3, t3, rfl, T3, fun b o e => ?_, ?_⟩)
    · have lb := Heap.lt_size e
      refine mv.heap b o (fun z => ?_) (Heap.get?_push_of_some _ (Heap.get?_push_of_some _ e))
      simp only [List.mem_cons, List.not_mem_nil, or_false] at z
      rcases z with z | z
      · exact absurd (z ▸ lb) (Nat.lt_irrefl _)
      · rw [sz1] at z
        have z2 : @Eq Nat b (s.heap.objs.size + 1) := z
        have lb2 : @LT.lt Nat _ b s.heap.objs.size := lb
        omega
    · obtain ⟨D, g, _⟩ := T3
      exact Heap.lt_size g
end
end OwT

namespace OwT
open PySem PySem.Spec PyProof.Rows PySem.Froz L2
/-- the set of the texts l at a -/
def TxO (P : Program) (w : World) (a : Addr) (l : List Str) : HO := .ext fun h => TxS P w h a l
section
variable {X : Cx} {pins : List (Addr × Obj)} {σ : L2.St} {H : Hp} {s : Shared}
theorem txO_ok {P : Program} {w : World} {h : Heap} {a : Addr} {l : List Str} (R : TxS P w h a l) : ObjOk P w H h a (TxO P w a l) := by
  have ⟨D, g, _⟩ := R
  exact ⟨R, ⟨_, g⟩, fun _ _ p k => TxS.at p k⟩
theorem txO_at (I : Inv X pins σ H s) {a : Addr} {l : List Str} (h : H a = some (TxO X.prog X.w a l)) : TxS X.prog X.w s.heap a l := (I.hok a _ h).1
/-- set(xs), a list or a tuple of texts -/
def rSetTx (X : Cx) : List V → Hp → VK → Prop := fun vs H Q => ∃ (a : Addr) (xs : List Str), vs = [.ref a] ∧ (SqL X.K H a (xs.map V.str) ∨ SqT X.K H a (xs.map V.str)) ∧ xs.length ≤ 1000 ∧ ∀ p, H p = none → Q (.ref p) (upd H p (TxO X.prog X.w p (once xs)))
theorem call_setTx (hc : X.calm = true) : CallR X (.type "set") (rSetTx X) := by
  intro pins s σ H vs us Q I r h
  obtain ⟨a, xs, rfl, hs, hz, q⟩ := h
  rw [Vals.ref1 r]
  have room : xs.length + 1 < scanBound := by unfold scanBound; omega
  have fin : ∀ h' tk, TxS X.prog X.w h' s.heap.objs.size (once xs) → (∀ b o, s.heap.get? b = some o → h'.get? b = some o) → s.heap.objs.size < h'.objs.size → EP X pins σ Q (.ref s.heap.objs.size) { s with heap := h', toks := tk } := fun h' tk T k _ =>
    ⟨.ref s.heap.objs.size, _, I.laid (t' := tk) k (Nat.le_refl _) (txO_ok T), rfl, q _ (I.hok.fresh (Nat.le_refl _))⟩
  rcases hs with hs | hs
  · obtain ⟨its, rv, pl, _⟩ := I.list hs
    exact set_list (I.ok.hd hc) pl.isList (by simpa using strsAre_of rv) room fin
  · obtain ⟨its, rv, pl, _⟩ := I.tuple hs
    exact set_tuple (I.ok.hd hc) pl (by simpa using strsAre_of rv) room fin
/-- len of it -/
def rLenTx (X : Cx) : List V → Hp → VK → Prop := fun vs H Q => ∃ (a : Addr) (l : List Str), vs = [.ref a] ∧ H a = some (TxO X.prog X.w a l) ∧ l.length ≤ 1000 ∧ Q (.int l.length) H
theorem call_lenTx : CallR X (.builtin "len") (rLenTx X) := by
  intro pins s σ H vs us Q I r h
  obtain ⟨a, l, rfl, ha, hz, q⟩ := h
  rw [Vals.ref1 r]
  obtain ⟨D, g, F, _⟩ := txO_at I ha
  obtain ⟨es, ep, t⟩ := D
  have z : es.size = l.length := F.sz
  exact call_len_set g ⟨rfl, rfl, rfl⟩ rfl F.fit (by show ((es.size : Nat) : Int) < _; omega) ⟨.int l.length, H, I.tok _, ⟨_, by rw [z]⟩, q⟩
/-- its list, sorted: in some order -/
def rSortTx (X : Cx) : List V → Hp → VK → Prop := fun vs H Q => ∃ (a : Addr) (l : List Str), vs = [.ref a] ∧ H a = some (TxO X.prog X.w a l) ∧ l.length < 64 ∧ ∀ (ys : List Str) p, ys.Perm l → H p = none → Q (.ref p) (upd H p (.lst (ys.map V.str)))
end
theorem perm_of_sub : ∀ {l m : List Str}, l.Nodup → (∀ z, z ∈ l → z ∈ m) → m.length ≤ l.length → m.Perm l
  | [], m, _, _, h => by
    have e : m = [] := List.length_eq_zero_iff.mp (Nat.le_zero.mp h)
    subst e
    exact List.Perm.refl _
  | k :: r, m, nd, sub, h => by
    obtain ⟨nk, nr⟩ := List.nodup_cons.mp nd
    have hk : k ∈ m := sub k List.mem_cons_self
    have p := List.perm_cons_erase hk
    have q := perm_of_sub (l := r) (m := m.erase k) nr (fun z hz => (List.mem_erase_of_ne (fun e : z = k => nk (by rw [← e]; exact hz))).mpr (sub z (List.mem_cons_of_mem _ hz))) (by
      rw [List.length_erase_of_mem hk]
      rw [List.length_cons] at h
      omega)
    exact p.trans (q.cons k)
theorem strsAre_all : ∀ {vs : List Value}, (∀ v ∈ vs, ∃ k t, v = .str k t) → StrsAre vs (vs.map PyProof.Rows.strOf)
  | [], _ => .nil
  | v :: r, h => by
    obtain ⟨k, t, rfl⟩ := h v List.mem_cons_self
    exact .cons k t (strsAre_all fun u hu => h u (List.mem_cons_of_mem _ hu))
section
variable {X : Cx} {pins : List (Addr × Obj)} {σ : L2.St} {H : Hp} {s : Shared}
theorem is_of {P : Program} {w : World} {k : Str} {v : Value} (h : (strKind P w).is k v = true) : ∃ t, v = .str k t := by
  have h' : Value.isStrOf k v = true := h
  cases v <;> simp [Value.isStrOf] at h'
  rename_i y t
  exact ⟨t, by rw [h']⟩
theorem call_sortTx (hc : X.calm = true) : CallR X (.builtin "sorted") (rSortTx X) := by
  intro pins s σ H vs us Q I r h
  obtain ⟨a, l, rfl, ha, h64, q⟩ := h
  rw [Vals.ref1 r]
  obtain ⟨D, g, F, nd, rs, ld⟩ := txO_at I ha
  obtain ⟨es, ep, t⟩ := D
  have z : es.size = l.length := F.sz
  have fb : es.size < scanBound := by unfold scanBound; omega
  refine Calls.call_function_entry kind_sorted plain_sorted entry_sorted (args_sorted1 _) ?_
  unfold Builtin.«sorted»
  refine wpAny_bind (m := checkCount "sorted" 1 1 _) (wpAny_pure (wpAny_bind (collect_set (A := X.A.in1) (I.ok.hd hc) ⟨_, g, rfl, rfl⟩ F.fit fb rs ld fun s1 ws k1 hz g1 o1 pm => ?_)))
  have allS : ∀ v ∈ ws, ∃ k u, v = .str k u := fun v hv => by
    obtain ⟨e, he, ev⟩ := List.mem_map.mp (pm.mem_iff.mp hv)
    obtain ⟨⟨k, hk, _⟩, _⟩ := F.el e he
    obtain ⟨u, hu⟩ := is_of hk
    exact ⟨k, u, ev ▸ hu⟩
  have hS := strsAre_all allS
  have wl : ws.length = l.length := by rw [pm.length_eq, List.length_map, Array.length_toList]; exact z
  have pl : (ws.map PyProof.Rows.strOf).Perm l := perm_of_sub nd (fun k hk => by
    obtain ⟨e, he, hp⟩ := (F.mem k).mp hk
    obtain ⟨u, hu⟩ := is_of hp
    exact List.mem_map.mpr ⟨e.2, pm.mem_iff.mpr (List.mem_map.mpr ⟨e, he, rfl⟩), by rw [hu]; rfl⟩) (by rw [List.length_map, wl]; exact Nat.le_refl _)
  have ll : ws.length < 64 := by rw [wl]; exact h64
  refine wpAny_bind (wpAny_newList ?_ (by rw [sizeLine_eq]; omega))
  have hoL : (s1.heap.push (seqObj "list" ws.toArray 0)).get? s1.heap.objs.size = some (seqObj "list" ws.toArray 0) := Heap.get?_push_size _ rfl
  refine wpAny_bind (wpAny_holding (wpAny_call_entry slot_list_sort ⟨_, hoL, rfl⟩ entry_list_sort (list_sort_treeK strKind_oneLt hoL hS.keysOf (fun v1 v2 rest e => keyKind_strs (by rw [← e]; exact hS)) ll fun st hp hs => ?_) (args_list_sort _)))
  obtain ⟨ys, y1, y2, _⟩ := sorted_out_str hS hp hs
  obtain ⟨c, hcc⟩ := sortedHeap_at (vs := ws) (out := (arrOf st).map (·.2)) hoL
  have hn : H s1.heap.objs.size = none := I.hok.fresh hz
  have yl : (ys.map V.str).length ≤ sizeLine := by rw [List.length_map, y2.length_eq, List.length_map, wl, sizeLine_eq]; omega
  have keep : ∀ b o, s.heap.get? b = some o → (sortedHeap (s1.heap.push (seqObj "list" ws.toArray 0)) s1.heap.objs.size ws ((arrOf st).map (·.2))).get? b = some o := fun b o e => by
    have e1 := k1 b o e
    have lt := Heap.lt_size e1
    rw [sortedHeap_old (Nat.ne_of_lt lt) (by rw [size_push']; exact Nat.lt_succ_of_lt lt)]
    exact Heap.get?_push_of_some _ e1
  obtain ⟨h1, gg, dd, tk, os⟩ := s1
  dsimp only at g1 o1
  subst g1 o1
  have J : Inv X pins σ (upd H h1.objs.size (.lst (ys.map V.str))) { s with heap := sortedHeap (h1.push (seqObj "list" ws.toArray 0)) h1.objs.size ws ((arrOf st).map (·.2)), gens := s.gens, drawn := dd, toks := tk } :=
    I.call (ch := []) (Un.laid keep hz hn) (I.hok.laid keep hz ⟨yl, _, c, vals_of_strs y1, hcc⟩) I.bare (fun _ z => nomatch z)
  exact ⟨_, rfl, wpAny_pure ⟨_, rfl, .ref h1.objs.size, _, J, rfl, q ys _ (y2.trans pl) hn⟩⟩
end
end OwT

/-! Sets whose elements are tuples of texts: an element is sought, put in, the table laid anew. -/
namespace OwP
open PySem PySem.Spec PyProof.Rows L2
section
variable {P : Program} {w : World} {A : Around} {E : Value → Shared → Prop} {s : Shared}
/-- its hash -/
def hs (P : Program) (w : World) (ks : List Str) : Int := tupleKeyHash (strKind P w) ks
/-- at b stands the tuple of these texts -/
def Tp (P : Program) (w : World) (h : Heap) (b : Addr) (ks : List Str) : Prop := IsTupleKey (strKind P w) h ks b
/-- a row of the table -/
def row (P : Program) (w : World) (p : Addr × List Str) : Int × Value := (hs P w p.2, .ref p.1)
theorem Tp.to {h h' : Heap} {b : Addr} {ks : List Str} (T : Tp P w h b ks) (k : ∀ o, h.get? b = some o → o.cls = .type "tuple" → h'.get? b = some o) : Tp P w h' b ks := by
  obtain ⟨o, its, n, g, c, r⟩ := T
  exact ⟨o, its, n, k o g c, c, r⟩
theorem texts_of {ks : List Str} {vs : List Value} (h : ItemsAre (strKind P w) ks vs) : ∀ v ∈ vs, ∃ x t, v = Value.str x t := by
  induction h with
  | nil => exact fun _ hv => nomatch hv
  | cons h1 _ ih =>
    intro v hv
    rcases List.mem_cons.mp hv with rfl | hv
    · obtain ⟨t, e⟩ := OwT.is_of h1
      exact ⟨_, t, e⟩
    · exact ih v hv
/-- a loop over texts that asks each one and goes on -/
theorem loop_texts {β : Type} {f : Value → Option β × PUnit → Sem (ForInStep (Option β × PUnit))} {its : Array Value} (ht : ∀ v ∈ its.toList, ∃ x t, v = Value.str x t) (hf : ∀ x t, f (.str x t) (none, ⟨⟩) = pure (.yield (none, ⟨⟩))) {Q : Option β × PUnit → Shared → Prop} (q : Q (none, ⟨⟩) s) :
    wpAny (model P w) A (forIn its (none, ⟨⟩) f) Q E s := by
  rw [← Array.forIn_toList]
  refine wpAny_forIn_list f (fun l b s' => (∀ v ∈ l, ∃ x t, v = Value.str x t) ∧ b = (none, ⟨⟩) ∧ s' = s) Q (fun v l b s' hI => ?_) (fun b s' hI => ?_) its.toList _ ⟨ht, rfl, rfl⟩
  · obtain ⟨hl, rfl, rfl⟩ := hI
    obtain ⟨x, t, rfl⟩ := hl v List.mem_cons_self
    rw [hf]
    exact wpAny_pure ⟨fun u hu => hl u (List.mem_cons_of_mem _ hu), rfl, rfl⟩
  · obtain ⟨_, rfl, rfl⟩ := hI
    exact q
theorem class_txt (n : Nat) (x : Str) (t : Tok) : ofAClassStatement n (.str x t) = pure false := by cases n <;> rfl
theorem value_txt (n : Nat) (x : Str) (t : Tok) : hashByValue n (.str x t) = pure false := hashByValue_scannable n rfl
/-- a loop over texts that may end at any of them, and changes nothing -/
theorem loop_any {β : Type} {f : Value → β → Sem (ForInStep β)} {its : Array Value} (ht : ∀ v ∈ its.toList, ∃ x t, v = Value.str x t) (hf : ∀ x t b, ∃ r, f (.str x t) b = pure r) {b0 : β} {Q : β → Shared → Prop} (q : ∀ b, Q b s) :
    wpAny (model P w) A (forIn its b0 f) Q E s := by
  rw [← Array.forIn_toList]
  refine wpAny_forIn_list f (fun l _ s' => (∀ v ∈ l, ∃ x t, v = Value.str x t) ∧ s' = s) Q (fun v l b s' hI => ?_) (fun b s' hI => ?_) its.toList _ ⟨ht, rfl⟩
  · obtain ⟨hl, rfl⟩ := hI
    obtain ⟨x, t, rfl⟩ := hl v List.mem_cons_self
    obtain ⟨r, e⟩ := hf x t b
    rw [e]
    refine wpAny_pure ?_
    cases r with
    | yield b' => exact ⟨fun u hu => hl u (List.mem_cons_of_mem _ hu), rfl⟩
    | done b' => exact q b'
  · obtain ⟨_, rfl⟩ := hI
    exact q b
theorem class_tp {b : Addr} {ks : List Str} {Q : Bool → Shared → Prop} (T : Tp P w s.heap b ks) (q : Q false s) : wpAny (model P w) A (ofAClassStatement 8 (.ref b)) Q E s := by
  have ty := IsTupleKey.typeIs T
  obtain ⟨o, its, n, g, _, dt, it⟩ := T
  unfold ofAClassStatement
  refine wpAny_bind (wpAny_typeOf ty ?_)
  have e : (("tuple" : String) == "tuple") = true := rfl
  simp only [e, if_true, Bool.not_true, Bool.false_eq_true, if_false]
  show wpAny _ _ (seqItems? (.ref b) >>= _) _ _ s
  refine wpAny_bind (wpAny_seqItems g dt (wpAny_bind ?_))
  refine loop_texts (texts_of it) (fun x t => ?_) (wpAny_pure q)
  rw [class_txt]
  rfl
theorem value_tp {b : Addr} {ks : List Str} {Q : Bool → Shared → Prop} (T : Tp P w s.heap b ks) (q : ∀ c, Q c s) : wpAny (model P w) A (hashByValue 8 (.ref b)) Q E s := by
  have ty := IsTupleKey.typeIs T
  obtain ⟨o, its, n, g, _, dt, it⟩ := T
  unfold hashByValue
  refine wpAny_bind (wpAny_specialOf ty F.slot_tuple_hash.lookup ?_)
  show wpAny _ _ (seqItems? (.ref b) >>= _) _ _ s
  refine wpAny_bind (wpAny_seqItems g dt (wpAny_bind ?_))
  refine loop_any (texts_of it) (fun x t c => ?_) (fun c => ?_)
  · rw [value_txt]
    exact ⟨_, rfl⟩
  · obtain ⟨r, u⟩ := c
    cases r with
    | none => exact wpAny_pure (q _)
    | some r => exact wpAny_pure (q _)
/-- nobody sees the search -/
theorem quiet_tp {b : Addr} {ks : List Str} {ys : List Value} {Q : Bool → Shared → Prop} (T : Tp P w s.heap b ks) (hy : ∀ y ∈ ys, ∃ c ls, y = Value.ref c ∧ Tp P w s.heap c ls) (q : Q false s) : wpAny (model P w) A (searchCouldBeSeen (.ref b) ys) Q E s := by
  unfold searchCouldBeSeen
  refine wpAny_bind (wpAny_forIn_list _ (fun l r s' => (∀ y ∈ l, ∃ c ls, y = Value.ref c ∧ Tp P w s.heap c ls) ∧ r.1 = none ∧ s' = s) _ (fun v l r s' hI => ?_) (fun r s' hI => ?_) ys _ ⟨hy, rfl, rfl⟩)
  · obtain ⟨hl, r0, rfl⟩ := hI
    obtain ⟨c, ls, rfl, Tc⟩ := hl v List.mem_cons_self
    have hl2 : ∀ y ∈ l, ∃ c ls, y = Value.ref c ∧ Tp P w s'.heap c ls := fun u hu => hl u (List.mem_cons_of_mem _ hu)
    dsimp only
    split
    · exact wpAny_pure ⟨hl2, rfl, rfl⟩
    · refine wpAny_bind (wpAny_eqIsQuiet_tuple T ?_)
      refine wp_if_neg (by decide) (wpAny_bind (wpAny_eqIsQuiet_tuple Tc ?_))
      refine wp_if_neg (by decide) (wpAny_bind (class_tp T ?_))
      refine wp_if_neg (by decide) (wpAny_bind (class_tp Tc ?_))
      exact wp_if_neg (by decide) (wpAny_pure ⟨hl2, rfl, rfl⟩)
  · obtain ⟨_, r0, rfl⟩ := hI
    obtain ⟨r1, r2⟩ := r
    dsimp only at r0
    subst r0
    exact wpAny_pure q
end
end OwP

namespace OwP
open PySem PySem.Spec PyProof.Rows L2
/-- the set at S has just these tuples, told by their addresses and texts -/
structure Bag (P : Program) (w : World) (h : Heap) (S : Addr) (L : List (Addr × List Str)) (es : Array (Int × Value)) (ep : Nat) (t : SetTable) : Prop where
  ob : ∃ o, h.get? S = some o ∧ o.ExactSet ∧ o.data = .set es ep t
  rw : es.toList = L.map (row P w)
  tb : TabOk t (L.map fun p => hs P w p.2)
  dis : (L.map (·.2)).Nodup
  tp : ∀ p ∈ L, Tp P w h p.1 p.2
  ld : w.params.followText "set-order" = true ∨ t.led = true
  sp : L.length * 5 < t.mask * 3
  sm : L.length < 64
section
variable {P : Program} {w : World} {A : Around} {E : Value → Shared → Prop} {s : Shared} {S x : Addr} {L : List (Addr × List Str)} {es : Array (Int × Value)} {ep : Nat} {t : SetTable} {ks : List Str}
theorem Bag.num {h : Heap} (B : Bag P w h S L es ep t) : es.size = L.length := by
  rw [← Array.length_toList, B.rw, List.length_map]
theorem Bag.fit {h : Heap} (B : Bag P w h S L es ep t) : t.fits es.size = true := by
  have a := B.tb.sz
  have b := B.num
  have c := B.sp
  rw [List.length_map] at a
  simp only [SetTable.fits, SetTable.fill, B.tb.dm, Bool.and_eq_true, beq_iff_eq, decide_eq_true_eq]
  show t.place.size = es.size ∧ t.place.size + 0 ≤ t.mask
  omega
theorem Bag.stay {h : Heap} (B : Bag P w h S L es ep t) : ¬ t.gaveWay = true := by
  simp only [SetTable.gaveWay, mask_odd B.tb.mok]
  decide
theorem Bag.at {h : Heap} (B : Bag P w h S L es ep t) {i : Nat} {p : Addr × List Str} (e : L[i]? = some p) : es[i]? = some (row P w p) := by
  rw [← Array.getElem?_toList, B.rw, List.getElem?_map, e]
  rfl
/-- where the i-th one lies is its i-th place -/
theorem Bag.lies {h : Heap} (B : Bag P w h S L es ep t) {i j : Nat} (e : t.place.toList[i]? = some j) : ∃ p, L[i]? = some p := by
  have a := (List.getElem?_eq_some_iff.mp e).1
  have b := B.tb.sz
  rw [List.length_map] at b
  rw [Array.length_toList, b] at a
  exact ⟨_, List.getElem?_eq_getElem a⟩
abbrev st0 (t : SetTable) (g : Int) : SetTable.Probe := runAt t.mask (SetTable.bits g % (t.mask + 1)) (SetTable.bits g)
theorem no_dummy (m : Nat) : ∀ (n : Nat) (p : SetTable.Probe), p.dummy = none → (nth m p n).dummy = none
  | 0, _, e => e
  | n + 1, p, e => no_dummy m n (adv m p) (by unfold adv; split <;> exact e)
/-- from the c-th step of its way on -/
theorem look (B : Bag P w s.heap S L es ep t) (T : Tp P w s.heap x ks) (hu : A.units < cLine) {K : Nat} (far : K < 10 * SetTable.turns t.mask) (gap : way t.mask (hs P w ks) K ∉ t.place.toList) (full : ∀ c, c < K → way t.mask (hs P w ks) c ∈ t.place.toList) {Q : SetFound → Shared → Prop}
    (yes : ks ∈ L.map (·.2) → Q (.there none) s) (no : ks ∉ L.map (·.2) → Q (.free (way t.mask (hs P w ks) K) false) s) :
    ∀ (f c : Nat) (st : Option SetTable.Probe), st.getD (t.probeStart (hs P w ks)) = nth t.mask (st0 t (hs P w ks)) c → c ≤ K → K < c + f → (∀ (i : Nat) (p : Addr × List Str), L[i]? = some p → p.2 = ks → ∃ d, c ≤ d ∧ d < K ∧ t.place.toList[i]? = some (way t.mask (hs P w ks) d)) →
      wpAny (model P w) A (setSearchFrom S (.ref x) (hs P w ks) true f st) Q E s := by
  obtain ⟨o, go, xo, dt⟩ := B.ob
  intro f
  induction f with
  | zero => intro c st _ h1 h2; omega
  | succ f ih =>
    intro c st hst h1 h2 left
    generalize hg : hs P w ks = g at far gap full no hst left ih ⊢
    have step : ∀ q, nth t.mask (nth t.mask (st0 t g) c) q = nth t.mask (st0 t g) (c + q) := fun q => (nth_add t.mask c _ q).symm
    have stepj : ∀ q, (nth t.mask (nth t.mask (st0 t g) c) q).j = way t.mask g (c + q) := fun q => congrArg SetTable.Probe.j (step q)
    have rowh : ∀ (i : Nat) (p : Addr × List Str), L[i]? = some p → (es[i]?.map (fun z : Int × Value => z.1)).getD 0 = hs P w p.2 := fun i p e => by
      rw [B.at e]
      rfl
    rw [setSearchFrom_succ]
    refine wpAny_bind (wpAny_setState_of go dt B.fit ?_)
    refine wp_if_neg B.stay ?_
    try refine wpAny_bind (wpAny_pure ?_)
    have probe : t.probe (fun i => (es[i]?.map (·.1)).getD 0) g (st.getD (t.probeStart g)) = SetTable.probe.go t (fun i => (es[i]?.map (·.1)).getD 0) g (10 * SetTable.turns t.mask) (nth t.mask (st0 t g) c) := by
      rw [hst]
      rfl
    rcases go_spec t B.tb.ris B.tb.dm (fun i => (es[i]?.map (·.1)).getD 0) g (10 * SetTable.turns t.mask) (K - c) (nth t.mask (st0 t g) c) (no_dummy _ _ _ rfl) (by omega) (fun q hq => by
        rw [stepj]
        exact full _ (by omega)) (by rw [stepj, Nat.add_sub_cancel' h1]; exact gap) with ⟨q, i, lt, lie, eh, fst, e⟩ | ⟨none', e⟩
    · rw [stepj] at lie e
      rw [step] at e
      obtain ⟨p, hp⟩ := B.lies lie
      have pm : p ∈ L := List.mem_of_getElem? hp
      have rest : wpAny (model P w) A (searchRest S (.ref x) g true f es t (way t.mask g (c + q)) i (nth t.mask (st0 t g) (c + (q + 1)))) Q E s := by
        have live := slot_live B.tb.ris lie
        unfold searchRest
        rw [B.at hp]
        refine wpAny_bind (wpAny_holding (wpAny_eqBool_tuple hu (B.tp p pm) T ?_))
        refine wpAny_bind (wpAny_setState_of go dt B.fit ?_)
        by_cases same : p.2 = ks
        · exact wp_if_pos (by simp [same]) (wpAny_pure (yes (List.mem_map.mpr ⟨p, pm, same⟩)))
        · refine wp_if_neg (by simp [same]) ?_
          try refine wpAny_bind (wpAny_pure ?_)
          rw [sameMem]
          simp only [if_true, live, B.at hp, row]
          refine wpAny_bind (wpAny_isSame_ref_self (wpAny_bind (wpAny_pure ?_)))
          simp only [if_true]
          refine wp_if_neg (by simp [same]) (ih (c + (q + 1)) _ rfl (by omega) (by omega) fun i2 p2 e2 same2 => ?_)
          obtain ⟨d, d1, d2, d3⟩ := left i2 p2 e2 same2
          refine ⟨d, ?_, d2, d3⟩
          refine Decidable.byContradiction fun small => ?_
          have hh : (es[i2]?.map (·.1)).getD 0 = g := by rw [rowh i2 p2 e2, same2, hg]
          rcases Nat.lt_or_ge d (c + q) with z | z
          · exact fst (d - c) i2 (by omega) (by rw [stepj, Nat.add_sub_cancel' d1]; exact d3) hh
          · have ed : d = c + q := by omega
            rw [ed] at d3
            have live2 := slot_live B.tb.ris d3
            rw [live] at live2
            injection live2 with ei
            rw [← ei, hp] at e2
            exact same ((congrArg Prod.snd (Option.some.inj e2)).trans same2)
      have e3 : t.probe (fun i => (es[i]?.map (·.1)).getD 0) g (st.getD (t.probeStart g)) = some (.candidate (way t.mask g (c + q)) i (nth t.mask (st0 t g) (c + (q + 1)))) := probe.trans e
      simp only [e3]
      by_cases led : t.led = true
      · refine wp_if_neg (by simp [led]) ?_
        try refine wpAny_bind (wpAny_pure ?_)
        exact rest
      · refine wp_if_pos (by simp [led]) (wpAny_bind (quiet_tp T (fun y hy => ?_) ?_))
        · obtain ⟨u, hu1, rfl⟩ := List.mem_map.mp hy
          have hu2 : u ∈ es.toList := by
            have z := Array.mem_toList_iff.mp hu1
            exact Array.mem_toList_iff.mpr (Array.mem_filter.mp z).1
          rw [B.rw] at hu2
          obtain ⟨p2, hp2, rfl⟩ := List.mem_map.mp hu2
          exact ⟨p2.1, p2.2, rfl, B.tp p2 hp2⟩
        · refine wp_if_neg (by decide) ?_
          try refine wpAny_bind (wpAny_pure ?_)
          exact rest
    · rw [stepj, Nat.add_sub_cancel' h1] at e
      have e3 : t.probe (fun i => (es[i]?.map (·.1)).getD 0) g (st.getD (t.probeStart g)) = some (.empty (way t.mask g K) none) := probe.trans e
      simp only [e3]
      refine wpAny_pure (no fun hm => ?_)
      obtain ⟨p, pm, same⟩ := List.mem_map.mp hm
      obtain ⟨i, hi, rfl⟩ := List.getElem_of_mem pm
      have ei := List.getElem?_eq_getElem hi
      obtain ⟨d, d1, d2, d3⟩ := left i _ ei same
      exact none' (d - c) i (by omega) (by rw [stepj, Nat.add_sub_cancel' d1]; exact d3) (by show (es[i]?.map (·.1)).getD 0 = g; rw [rowh i _ ei, same, hg])
end
end OwP

namespace OwP
open PySem PySem.Spec PyProof.Rows L2
theorem perm_unmap {α β : Type} (f : α → β) {xs ys : List β} (p : xs.Perm ys) : ∀ l : List α, ys = l.map f → ∃ m : List α, xs = m.map f ∧ m.Perm l := by
  induction p with
  | nil =>
    intro l e
    have l0 : l = [] := List.map_eq_nil_iff.mp e.symm
    exact ⟨[], rfl, l0 ▸ List.Perm.refl _⟩
  | cons x _ ih =>
    intro l e
    cases l with
    | nil => cases e
    | cons a r =>
      injection e with e1 e2
      obtain ⟨m, hm, pm⟩ := ih r e2
      exact ⟨a :: m, by rw [List.map_cons, hm, e1], pm.cons a⟩
  | swap x y _ =>
    intro l e
    match l, e with
    | a :: b :: r, e =>
      injection e with e1 e2
      injection e2 with e2 e3
      exact ⟨b :: a :: r, by rw [List.map_cons, List.map_cons, e1, e2, e3], List.Perm.swap _ _ _⟩
  | trans _ _ ih1 ih2 =>
    intro l e
    obtain ⟨m, hm, pm⟩ := ih2 l e
    obtain ⟨n, hn, pn⟩ := ih1 m hm
    exact ⟨n, hn, pn.trans pm⟩
theorem all_of {α : Type} : ∀ l : List α, (List.range l.length).filterMap (fun i => l[i]?) = l
  | [] => rfl
  | a :: r => by
    rw [List.length_cons, List.range_succ_eq_map, List.filterMap_cons]
    show a :: List.filterMap (fun i => (a :: r)[i]?) (List.map Nat.succ (List.range r.length)) = a :: r
    rw [List.filterMap_map]
    have e : ((fun i => (a :: r)[i]?) ∘ Nat.succ) = fun i => r[i]? := by
      funext i
      rfl
    rw [e, all_of r]
theorem some_of {α γ : Type} (es : Array α) (g : α → γ) (d : γ) : ∀ l : List Nat, (∀ i ∈ l, i < es.size) → (l.filterMap fun i => es[i]?).map g = l.map fun i => (es.map g).getD i d
  | [], _ => rfl
  | i :: r, h => by
    have hi := h i List.mem_cons_self
    have e1 : es[i]? = some es[i] := Array.getElem?_eq_getElem hi
    rw [List.filterMap_cons_some e1, List.map_cons, List.map_cons, some_of es g d r fun j hj => h j (List.mem_cons_of_mem _ hj)]
    congr 1
    simp [Array.getD_eq_getD_getElem?, hi]
theorem tab_plain {t : SetTable} {hs : List Int} (T : TabOk t hs) (b : Bool) : TabOk { t with plain := b } hs := ⟨T.ris, T.dm, T.sz, T.mok, T.bd, T.reach⟩
section
variable {P : Program} {w : World} {A : Around} {E : Value → Shared → Prop} {s : Shared} {S x : Addr} {L : List (Addr × List Str)} {es : Array (Int × Value)} {ep : Nat} {t : SetTable} {ks : List Str}
theorem seek (B : Bag P w s.heap S L es ep t) (T : Tp P w s.heap x ks) (hu : A.units < cLine) {Q : SetFound → Shared → Prop} (yes : ks ∈ L.map (·.2) → Q (.there none) s)
    (no : ∀ K, ks ∉ L.map (·.2) → way t.mask (hs P w ks) K ∉ t.place.toList → (∀ c, c < K → way t.mask (hs P w ks) c ∈ t.place.toList) → Q (.free (way t.mask (hs P w ks) K) false) s) :
    wpAny (model P w) A (setSearch S (.ref x) (hs P w ks) true) Q E s := by
  have sp := B.sp
  obtain ⟨K, far, gap, full⟩ := B.tb.first (by rw [List.length_map]; omega) (hs P w ks)
  have bound : 10 * SetTable.turns t.mask < 100000 := by rcases B.tb.mok with e | e | e <;> rw [e] <;> decide
  unfold setSearch
  refine look B T hu far gap full yes (fun n => no K n gap full) 100000 0 none rfl (Nat.zero_le _) (by omega) fun i p e same => ?_
  have hi : (L.map fun p => hs P w p.2)[i]? = some (hs P w ks) := by
    rw [List.getElem?_map, e, ← same]
    rfl
  have lt : i < t.place.toList.length := by
    rw [Array.length_toList, B.tb.sz]
    exact (List.getElem?_eq_some_iff.mp hi).1
  have hj := List.getElem?_eq_getElem lt
  obtain ⟨d, hd, ed⟩ := B.tb.before gap hi hj
  exact ⟨d, Nat.zero_le _, hd, by rw [hj, ed]⟩
theorem Tp.past {h h' : Heap} {b : Addr} {o : Obj} (T : Tp P w h b ks) (go : h.get? S = some o) (dt : o.data = .set es ep t) (sb : Heap.SameBut S h h') : Tp P w h' b ks := T.to fun o' g c => by
  refine (sb.2 b fun e => ?_).trans g
  obtain ⟨o2, its, n, g2, _, d2, _⟩ := T
  rw [e, go] at g2
  cases g2
  rw [dt] at d2
  cases d2
/-- the table laid anew -/
theorem relay {o : Obj} (go : s.heap.get? S = some o) (xo : o.ExactSet) (dt : o.data = .set es ep t) (rows : es.toList = L.map (row P w)) (sz : t.place.size = es.size) (dm : t.dummies = #[]) (fl : es.size ≤ t.mask) (dis : (L.map (·.2)).Nodup) (tp : ∀ p ∈ L, Tp P w s.heap p.1 p.2)
    (ld : w.params.followText "set-order" = true ∨ t.led = true) (sm : L.length < 64) {wanted M : Nat} (hw : SetTable.sizeAbove wanted - 1 = M) (hM : MaskOk M) (small : SetTable.sizeAbove wanted ≤ 128) (room : L.length * 5 < M * 3) {Q : Unit → Shared → Prop}
    (q : ∀ h' L' es' ep' t', Heap.SameBut S s.heap h' → Bag P w h' S L' es' ep' t' → L'.Perm L → Q () { s with heap := h' }) : wpAny (model P w) A (setRelay S wanted) Q E s := by
  have num : es.size = L.length := by rw [← Array.length_toList, rows, List.length_map]
  have fit : t.fits es.size = true := by
    simp only [SetTable.fits, SetTable.fill, dm, Bool.and_eq_true, beq_iff_eq, decide_eq_true_eq]
    show t.place.size = es.size ∧ t.place.size + 0 ≤ t.mask
    omega
  obtain ⟨t', order, e, po, T, em, el, _, _⟩ := relaid_ok t (hs := es.map (·.1)) hw hM (by rw [Array.size_map]; omega)
  rw [Array.size_map] at po
  have new : (order.filterMap (es[·]?)).toList = order.toList.filterMap fun i => es[i]? := by rw [Array.toList_filterMap]
  have pn : (order.filterMap (es[·]?)).toList.Perm es.toList := by
    rw [new]
    have z := po.filterMap fun i => es[i]?
    have z2 : (List.range es.size).filterMap (fun i => es[i]?) = es.toList := by
      have y := all_of es.toList
      rw [Array.length_toList] at y
      rw [← y]
      congr 1
      funext i
      rw [Array.getElem?_toList]
    rw [z2] at z
    exact z
  obtain ⟨L', rows', pl⟩ := perm_unmap (row P w) (rows ▸ pn) L rfl
  have hashes : (order.toList.map fun i => (es.map (·.1)).getD i 0) = L'.map fun p => hs P w p.2 := by
    rw [← some_of es (·.1) 0 order.toList fun i hi => List.mem_range.mp (po.mem_iff.mp hi), ← new, rows', List.map_map]
    rfl
  rw [hashes] at T
  have ns : (order.filterMap (es[·]?)).size = es.size := by rw [← Array.length_toList, pn.length_eq, Array.length_toList]
  rw [setRelay_eq]
  refine wpAny_bind (wpAny_setState_of go dt fit ?_)
  refine wp_if_neg (by rw [sizeLine_eq]; omega) ?_
  try refine wpAny_bind (wpAny_pure ?_)
  simp only [e]
  refine wpAny_bind (wp_if_neg (by rw [ns]; simp) ?_)
  try refine wpAny_bind (wpAny_pure ?_)
  refine wpAny_pure (wpAny_storeSet_of go dt ?_ (by rw [ns, num, sizeLine_eq]; omega))
  have sb : Heap.SameBut S s.heap (s.heap.update S (Obj.putSet (order.filterMap (es[·]?)) t')) := Heap.SameBut.update ..
  exact q _ L' _ (ep + 1) t' sb ⟨⟨_, store_at go dt, ⟨xo.1, xo.2.1, xo.2.2⟩, rfl⟩, rows', T, (pl.map (·.2)).nodup_iff.mpr dis, fun p hp => (tp p (pl.mem_iff.mp hp)).past go dt sb, by rw [el]; exact ld, by rw [pl.length_eq, em]; exact room, by rw [pl.length_eq]; exact sm⟩ pl
theorem ask_plain {b : Bool} (T : Tp P w s.heap x ks) {Q : Bool → Shared → Prop} (q : ∀ c, Q c s) : wpAny (model P w) A (if b = true then hashByValue 8 (.ref x) else pure true) Q E s := by
  split
  · exact value_tp T q
  · exact wpAny_pure (q true)
end
end OwP

namespace OwP
open PySem PySem.Spec PyProof.Rows L2
section
variable {P : Program} {w : World} {A : Around} {E : Value → Shared → Prop} {s : Shared} {S x : Addr} {L : List (Addr × List Str)} {es : Array (Int × Value)} {ep : Nat} {t : SetTable} {ks : List Str}
/-- the row is laid; the table grows where it is too full -/
theorem lay_row (B : Bag P w s.heap S L es ep t) (T : Tp P w s.heap x ks) (sm : L.length + 1 < 64) {o : Obj} (go : s.heap.get? S = some o) (xo : o.ExactSet) (dt : o.data = .set es ep t) (new : ks ∉ L.map (·.2)) {at' : Nat} {t2 : SetTable} (T2 : TabOk t2 ((L.map fun p => hs P w p.2).take at' ++ hs P w ks :: (L.map fun p => hs P w p.2).drop at')) (m2 : t2.mask = t.mask) (l2 : t2.led = t.led) (f2 : t2.fill = L.length + 1)
    {Q : Bool → Shared → Prop} (q : ∀ b h' L' es' ep' t', Heap.SameBut S s.heap h' → Bag P w h' S L' es' ep' t' → (ks ∈ L.map (·.2) → L' = L) → (ks ∉ L.map (·.2) → L'.Perm ((x, ks) :: L)) → Q b { s with heap := h' }) :
    wpAny (model P w) A (do
      storeSet S (SetTable.insertAt es at' (hs P w ks, .ref x)) t2
      if !false && t2.tooFull then setRelay S (SetTable.grown (es.size + 1))
      return true) Q E s := by
  have num := B.num
  have sp := B.sp
  have mapd : ∀ f : Addr × List Str → Int, (L.take at' ++ (x, ks) :: L.drop at').map f = (L.map f).take at' ++ f (x, ks) :: (L.map f).drop at' := fun f => by rw [List.map_append, List.map_cons, List.map_take, List.map_drop]
  have T3 : TabOk t2 ((L.take at' ++ (x, ks) :: L.drop at').map fun p => hs P w p.2) := by
    rw [mapd fun p => hs P w p.2]
    exact T2
  have rows : (SetTable.insertAt es at' (hs P w ks, .ref x)).toList = (L.take at' ++ (x, ks) :: L.drop at').map (row P w) := by
    rw [SetTable.toList_insertAt, B.rw, List.map_append, List.map_cons, List.map_take, List.map_drop]
    rfl
  have pm := put_perm L at' (x, ks)
  have num2 : (SetTable.insertAt es at' (hs P w ks, Value.ref x)).size = L.length + 1 := by
    rw [← Array.length_toList, rows, List.length_map, pm.length_eq]
    rfl
  have dis2 : ((L.take at' ++ (x, ks) :: L.drop at').map (·.2)).Nodup := (pm.map (·.2)).nodup_iff.mpr (by
    rw [List.map_cons]
    exact List.nodup_cons.mpr ⟨new, B.dis⟩)
  have len2 : (L.take at' ++ (x, ks) :: L.drop at').length = L.length + 1 := pm.length_eq
  generalize SetTable.insertAt es at' (hs P w ks, Value.ref x) = es2 at rows num2 ⊢
  generalize L.take at' ++ (x, ks) :: L.drop at' = L2 at T3 rows pm dis2 len2
  refine wpAny_bind (wpAny_storeSet_of go dt ?_ (by rw [num2, sizeLine_eq]; omega))
  have sb : Heap.SameBut S s.heap (s.heap.update S (Obj.putSet es2 t2)) := Heap.SameBut.update ..
  have go2 := store_at (es' := es2) (t' := t2) go dt
  have tp2 : ∀ p ∈ L2, Tp P w (s.heap.update S (Obj.putSet es2 t2)) p.1 p.2 := fun p hp => by
    rcases List.mem_cons.mp (pm.mem_iff.mp hp) with rfl | hp
    · exact T.past go dt sb
    · exact (B.tp p hp).past go dt sb
  generalize s.heap.update S (Obj.putSet es2 t2) = h2 at sb go2 tp2 ⊢
  have ld2 : w.params.followText "set-order" = true ∨ t2.led = true := by rw [l2]; exact B.ld
  by_cases tf : t2.tooFull = true
  · have much : (L.length + 1) * 5 ≥ t.mask * 3 := by
      have z := tf
      simp only [SetTable.tooFull, decide_eq_true_eq, f2, m2] at z
      exact z
    have sz2 : t2.place.size = es2.size := by
      have z := T3.sz
      rw [List.length_map, len2] at z
      rw [z, num2]
    have two : (t.mask = 7 ∧ L.length = 4) ∨ (t.mask = 31 ∧ L.length = 18) := by
      rcases B.tb.mok with e | e | e <;> rw [e] at much sp
      · exact Or.inl ⟨e, by omega⟩
      · exact Or.inr ⟨e, by omega⟩
      · omega
    have laid : ∀ M, SetTable.sizeAbove (SetTable.grown (L.length + 1)) - 1 = M → MaskOk M → SetTable.sizeAbove (SetTable.grown (L.length + 1)) ≤ 128 → (L.length + 1) * 5 < M * 3 →
        wpAny (model P w) A (setRelay S (SetTable.grown (es.size + 1))) (fun _ s' => wpAny (model P w) A (pure true) Q E s') E { s with heap := h2 } := fun M a1 a2 a3 a4 => by
      rw [num]
      exact relay (s := { s with heap := h2 }) go2 ⟨xo.1, xo.2.1, xo.2.2⟩ rfl rows sz2 T3.dm (by rw [num2, m2]; rcases two with ⟨e, _⟩ | ⟨e, _⟩ <;> omega) dis2 tp2 ld2 (by omega) a1 a2 a3 (by omega) fun h3 L3 es3 ep3 t3 sb3 B3 pm3 => wpAny_pure (q true h3 L3 es3 ep3 t3 (sb.trans sb3) B3 (fun z => absurd z new) fun _ => pm3.trans pm)
    first
      | refine wp_if_pos (by simp [tf]) (wpAny_bind ?_)
      | refine wpAny_bind (wp_if_pos (by simp [tf]) ?_)
    rcases two with ⟨_, e⟩ | ⟨_, e⟩
    · exact laid 31 (by rw [e, size_20]) (.inr (.inl rfl)) (by rw [e, size_20]; decide) (by omega)
    · exact laid 127 (by rw [e, size_76]) (.inr (.inr rfl)) (by rw [e, size_76]; decide) (by omega)
  · have few : (L.length + 1) * 5 < t.mask * 3 := by
      have z := tf
      simp only [SetTable.tooFull, decide_eq_true_eq, f2, m2] at z
      omega
    have fin : wpAny (model P w) A (pure true) Q E { s with heap := h2 } := wpAny_pure (q true h2 L2 es2 (ep + 1) t2 sb ⟨⟨_, go2, ⟨xo.1, xo.2.1, xo.2.2⟩, rfl⟩, rows, T3, dis2, tp2, ld2, by rw [len2, m2]; exact few, by omega⟩ (fun z => absurd z new) fun _ => pm)
    first
      | exact wp_if_neg (by simp [tf]) fin
      | exact wpAny_bind (wp_if_neg (by simp [tf]) (wpAny_pure fin))
/-- a tuple is put in -/
theorem put_in (B : Bag P w s.heap S L es ep t) (T : Tp P w s.heap x ks) (hu : A.units < cLine) (sm : L.length + 1 < 64) {Q : Bool → Shared → Prop}
    (q : ∀ b h' L' es' ep' t', Heap.SameBut S s.heap h' → Bag P w h' S L' es' ep' t' → (ks ∈ L.map (·.2) → L' = L) → (ks ∉ L.map (·.2) → L'.Perm ((x, ks) :: L)) → Q b { s with heap := h' }) :
    wpAny (model P w) A (setAddHashed S (.ref x) (hs P w ks)) Q E s := by
  obtain ⟨o, go, xo, dt⟩ := B.ob
  unfold setAddHashed
  refine wpAny_holding ?_
  show wpAny _ _ (setAddHashedIn S (.ref x) (hs P w ks) (99999 + 1)) _ _ _
  rw [setAddHashedIn_succ]
  refine wpAny_bind (wpAny_setState_of go dt B.fit ?_)
  refine wp_if_neg (by simp [byScan, Value.scannable]) ?_
  try refine wpAny_bind (wpAny_pure ?_)
  refine wpAny_bind (seek B T hu (fun there => ?_) fun K new gap full => ?_)
  · exact wpAny_pure (q false s.heap L es ep t (Heap.SameBut.refl S s.heap) B (fun _ => rfl) fun z => absurd there z)
  · refine wpAny_bind (wpAny_setState_of go dt B.fit ?_)
    obtain ⟨p1, p2, p3, p4, p5, _, _, _, p9⟩ := B.tb.put gap full
    generalize way t.mask (hs P w ks) K = j at p1 p2 p3 p4 p5 p9 ⊢
    dsimp only
    generalize t.put j = pt at p1 p3 p4 p5 p9 ⊢
    obtain ⟨t1, at'⟩ := pt
    dsimp only at p1 p3 p4 p5 p9 ⊢
    subst p1
    rw [List.length_map] at p9
    by_cases pl : t1.plain = true
    · refine wp_if_pos pl (wpAny_bind (value_tp T fun c => ?_))
      cases c with
      | true => exact lay_row B T sm go xo dt new p3 p4 p5 p9 q
      | false => exact lay_row B T sm go xo dt new (t2 := { t1 with plain := false }) (tab_plain p3 false) p4 p5 p9 q
    · refine wp_if_neg pl ?_
      first
        | exact lay_row B T sm go xo dt new p3 p4 p5 p9 q
        | exact wpAny_bind (wpAny_pure (lay_row B T sm go xo dt new p3 p4 p5 p9 q))
end
end OwP

namespace OwP
open PySem PySem.Spec PyProof.Rows L2
/-- what a set has got from the items: some of them, each key once -/
structure Of (xs L : List (Addr × List Str)) : Prop where
  sub : ∀ p ∈ L, p ∈ xs
  all : ∀ p ∈ xs, p.2 ∈ L.map (·.2)
theorem Of.same {xs L : List (Addr × List Str)} {p : Addr × List Str} (O : Of xs L) (h : p.2 ∈ L.map (·.2)) : Of (xs ++ [p]) L := ⟨fun q hq => List.mem_append_left _ (O.sub q hq), fun q hq => by
  rcases List.mem_append.mp hq with hq | hq
  · exact O.all q hq
  · rw [List.mem_singleton.mp hq]
    exact h⟩
theorem Of.more {xs L L' : List (Addr × List Str)} {p : Addr × List Str} (O : Of xs L) (h : L'.Perm (p :: L)) : Of (xs ++ [p]) L' := ⟨fun q hq => by
  rcases List.mem_cons.mp (h.mem_iff.mp hq) with rfl | hq
  · exact List.mem_append_right _ List.mem_cons_self
  · exact List.mem_append_left _ (O.sub q hq), fun q hq => by
  refine ((h.map (·.2)).mem_iff).mpr ?_
  rw [List.map_cons]
  rcases List.mem_append.mp hq with hq | hq
  · exact List.mem_cons_of_mem _ (O.all q hq)
  · rw [List.mem_singleton.mp hq]
    exact List.mem_cons_self⟩
theorem Of.len {xs L : List (Addr × List Str)} (O : Of xs L) (nd : (L.map (·.2)).Nodup) : L.length ≤ xs.length :=
  List.Nodup.length_le_of_subset (nd.of_map _ fun _ _ h e => h (congrArg _ e)) O.sub
section
variable {P : Program} {w : World} {A : Around} {E : Value → Shared → Prop} {s : Shared} {S x : Addr} {ks : List Str}
/-- the set at S, some rows -/
def Has (P : Program) (w : World) (h : Heap) (S : Addr) (xs : List (Addr × List Str)) : Prop := ∃ L es ep t, Bag P w h S L es ep t ∧ Of xs L
theorem Has.to {h h' : Heap} {xs : List (Addr × List Str)} (H : Has P w h S xs) (k : ∀ b o, (b = S ∨ ∃ p ∈ xs, b = p.1) → h.get? b = some o → h'.get? b = some o) : Has P w h' S xs := by
  obtain ⟨L, es, ep, t, B, O⟩ := H
  obtain ⟨o, go, xo⟩ := B.ob
  exact ⟨L, es, ep, t, ⟨⟨o, k _ _ (Or.inl rfl) go, xo⟩, B.rw, B.tb, B.dis, fun p hp => (B.tp p hp).to fun o g _ => k _ _ (Or.inr ⟨p, O.sub p hp, rfl⟩) g, B.ld, B.sp, B.sm⟩, O⟩
/-- s.add(t) -/
theorem add_one {xs : List (Addr × List Str)} (H : Has P w s.heap S xs) (T : Tp P w s.heap x ks) (hu : A.units + 2 < cLine) (sm : xs.length + 1 < 64) {Q : Bool → Shared → Prop}
    (q : ∀ b h', (∀ c, c ≠ S → ∀ o, s.heap.get? c = some o → h'.get? c = some o) → Has P w h' S (xs ++ [(x, ks)]) → Q b { s with heap := h', toks := s.toks + (ks.length + 1) }) : wpAny (model P w) A (setAdd S (.ref x)) Q E s := by
  obtain ⟨L, es, ep, t, B, O⟩ := H
  have ln := O.len B.dis
  unfold setAdd
  refine wpAny_holding (wpAny_bind (wpAny_pyHash_tuple (by omega) T ?_))
  refine put_in (s := { s with toks := s.toks + (ks.length + 1) }) B T (by omega) (by omega) fun b h' L' es' ep' t' sb B' same more => q b h' (fun c hc o g => (sb.2 c hc).trans g) ?_
  by_cases m : ks ∈ L.map (·.2)
  · rw [same m] at B'
    exact ⟨L, es', ep', t', B', O.same m⟩
  · exact ⟨L', es', ep', t', B', O.more (more m)⟩
end
section
variable {P : Program} {w : World} {A : Around} {R : Result → Shared → Prop} {I : Addr} {fp wr : List Addr} {G : Array GenState → Array GenState → Prop} {n : Nat} {Pv : Nat → Value → Prop} {St : Nat → Shared → Prop}
/-- the loop that fills the set -/
theorem fill (W : WalksS P w A.in1 I fp wr G n Pv St) {S : Addr} (out : S ∉ fp) {xs : List (Addr × List Str)} (hn : xs.length = n) (hb : n + 1 < 64) (hu : A.units + 10 < cLine) (far : ∀ p ∈ xs, p.1 ∉ wr ∧ p.1 ≠ S) (hv : ∀ i v, Pv i v → ∃ p, xs[i]? = some p ∧ v = .ref p.1) :
    ∀ (m i : Nat) (s : Shared), i + m = n → St i s → (∀ p ∈ xs, Tp P w s.heap p.1 p.2) → Has P w s.heap S (xs.take i) → (∀ s', Moved (S :: wr) G s s' → Has P w s'.heap S xs → R (.ok (.ret .none)) s') →
      codeAny (model P w) A (.builtin "set.update.loop" ⟨[.ref S, .ref I], []⟩) R s := by
  have out2 : S ∉ wr := fun z => out (W.sub _ z)
  have wider : ∀ b ∈ wr, b ∈ S :: wr := fun b z => List.mem_cons_of_mem _ z
  intro m
  induction m with
  | zero =>
    intro i s e st tps T k
    obtain rfl : i = n := by omega
    rw [← hn, List.take_length] at T
    refine codeAny_builtin PyProof.Rows.F.entry_set_update_loop ?_
    rw [Around.under_plainId PyProof.Rows.F.plain_set_update_loop _]
    exact wpAny_bind (W.done s _ _ st fun s' mv => wpAny_pure (k s' (mv.mono wider) (T.to fun b o hb q => mv.heap b o (by
      rcases hb with rfl | ⟨p, hp, rfl⟩
      · exact out2
      · exact (far p hp).1) q)))
  | succ m ih =>
    intro i s e st tps T k
    refine codeAny_builtin PyProof.Rows.F.entry_set_update_loop ?_
    rw [Around.under_plainId PyProof.Rows.F.plain_set_update_loop _]
    refine wpAny_bind (W.item i s _ _ (by omega) st fun v s1 pv st1 mv => ?_)
    obtain ⟨p, hp, rfl⟩ := hv i v pv
    have pm : p ∈ xs := List.mem_of_getElem? hp
    have T1 : Has P w s1.heap S (xs.take i) := T.to fun b o hb q => mv.heap b o (by
      rcases hb with rfl | ⟨p, hp, rfl⟩
      · exact out2
      · exact (far p (List.mem_of_mem_take hp)).1) q
    have tps1 : ∀ p ∈ xs, Tp P w s1.heap p.1 p.2 := fun p hp => (tps p hp).to fun o g _ => mv.heap _ o (far p hp).1 g
    have room : (xs.take i).length + 1 < 64 := by
      have b : (xs.take i).length ≤ i := List.length_take_le i xs
      omega
    refine wpAny_bind (wpAny_holding (add_one T1 (tps1 p pm) (by first | omega | (show Around.units _ + 2 < cLine; simp; omega)) room fun b h' kp T2 => ?_))
    have e2 : xs.take (i + 1) = xs.take i ++ [(p.1, p.2)] := by
      rw [List.take_add_one, hp]
      rfl
    rw [← e2] at T2
    refine wpAny_pure ⟨plainId_quiet PyProof.Rows.F.plain_set_update_loop _, ih (i + 1) _ (by omega) (W.frame _ s1 _ _ st1 (Nat.le_add_right _ _) fun c hc o q => kp c (fun z => out (z ▸ hc)) o q) (fun p hp => (tps1 p hp).to fun o g _ => kp _ (far p hp).2 o g) T2 fun s2 mv2 T3 => ?_⟩
    exact k s2 (Moved.trans W.gtrans ((mv.mono wider).then_heap (Nat.le_add_right _ _) fun c o hc q => kp c (fun z => hc (z ▸ List.mem_cons_self)) o q) mv2) T3
end
end OwP

namespace OwP
open PySem PySem.Spec PyProof.Rows PySem.Froz L2 OwT
section
variable {P : Program} {w : World} {A : Around} {E : Value → Shared → Prop} {s : Shared}
theorem bag_new {h : Heap} {S : Addr} (g : h.get? S = some (OwT.fresh w)) : Has P w h S [] := ⟨[], #[], 0, .fresh 0 0 (!w.params.followText "set-order"), ⟨⟨_, g, ⟨rfl, rfl, rfl⟩, rfl⟩, rfl, ⟨List.Pairwise.nil, rfl, rfl, Or.inl rfl, (fun _ h => nomatch h), (fun _ _ _ h _ => nomatch h)⟩, List.nodup_nil, (fun _ h => nomatch h), OwT.fresh_led w, by show 0 * 5 < 7 * 3; decide, by show 0 < 64; decide⟩, ⟨(fun _ h => nomatch h), fun _ h => nomatch h⟩⟩
theorem set_list {l : Addr} {its : Array Value} {xs : List (Addr × List Str)} {Q : Value → Shared → Prop} (hh : A.handled = none) (hl : s.heap.IsList l its) (hi : its.toList = xs.map fun p => Value.ref p.1) (tps : ∀ p ∈ xs, Tp P w s.heap p.1 p.2) (hb : xs.length + 1 < 64) (hu : A.units + 64 < cLine)
    (h : ∀ h' tk, Has P w h' s.heap.objs.size xs → (∀ b o, s.heap.get? b = some o → h'.get? b = some o) → s.heap.objs.size < h'.objs.size → Q (.ref s.heap.objs.size) { s with heap := h', toks := tk }) : wpAny (model P w) A (call (.type "set") [.ref l]) Q E s := by
  obtain ⟨cc, tl, hmro⟩ := PySem.F.called_set.mro
  have hmade := PySem.F.called_set.made; have hsub := PySem.F.called_set.sub; have h1 := PySem.F.called_set.notType; have h2 := PySem.F.called_set.canCreate; have hct := PySem.F.typeCall_set_1 (.ref l)
  refine wpAny_call (codeAny_of_tree (wpAny_pure ⟨Code.quiet_builtin _ (by decide +kernel), codeAny_builtin PySem.F.entry_type_call ?_⟩))
  rw [Around.under_plain (weight_type_call_type "set" [.ref l] []) rfl]
  repeat (any_goals (first | assumption | wp_step))
  refine codeAny_mono (new_led (.ref l) (E := E) (Q₁ := fun o s1 => o = .ref s.heap.objs.size ∧ s1 = { s with heap := s.heap.push (fresh w) }) ⟨rfl, rfl⟩) fun r s1 hr => ?_
  rcases r with er | fl
  · exact hr
  rcases fl with _ | _ | _ | ob
  · exact hr.elim
  · exact hr.elim
  · exact hr.elim
  obtain ⟨rfl, rfl⟩ := hr
  have hS : (s.heap.push (fresh w)).get? s.heap.objs.size = some (fresh w) := Heap.get?_push_size _ rfl
  have hT : Shared.TypeIs { s with heap := s.heap.push (fresh w) } (.ref s.heap.objs.size) "set" := ⟨_, hS, rfl⟩
  have hli := PySem.F.called_set.init.lookup; have hbi := PySem.F.called_set.init.bind (.ref s.heap.objs.size)
  repeat (any_goals (first | assumption | wp_step))
  refine codeAny_mono (codeAny_call_builtin (R := wants (fun r s2 => r = .none ∧ ∃ h' tk, s2 = { s with heap := h', toks := tk } ∧ Has P w h' s.heap.objs.size xs ∧ (∀ b o, s.heap.get? b = some o → h'.get? b = some o) ∧ s.heap.objs.size < h'.objs.size) E) PySem.F.called_set.init.plain PySem.F.entry_set_init (check_set_init_1 hT ?_)) fun r2 s2 hr2 => ?_
  rotate_left
  · rcases r2 with er | fl2
    · exact hr2
    rcases fl2 with _ | _ | _ | rv
    · exact hr2.elim
    · exact hr2.elim
    · exact hr2.elim
    obtain ⟨rfl, h', tk, rfl, g1, g2, g3⟩ := hr2
    repeat (any_goals (first | assumption | wp_step))
    exact h _ _ g1 g2 g3
  obtain ⟨ol, hol, hcl, nl, hdl⟩ := hl
  have lt : l < s.heap.objs.size := Heap.lt_size hol
  obtain ⟨c1, c2, c3, c4⟩ := ol
  dsimp only at hcl hdl
  subst hcl hdl
  have hol2 : (s.heap.push (fresh w)).get? l = some { cls := .type "list", dict := c2, data := .seq its nl, slots := c4 } := Heap.get?_push_of_some _ hol
  have hq : (s.heap.push (fresh w)).IsList l its := ⟨_, hol2, rfl, nl, rfl⟩
  have hsl1 := PySem.F.sub_list_set; have hsl2 := PySem.F.sub_list_frozenset
  have hne : (Value.type "list" == Value.type "dict") = false := by decide
  unfold Builtin.«set.__init__» noKeywords Builtin.Frozenset.updateFrom; generalize hPI : pyIter = PI
  wp_walk
  subst hPI
  refine wpAny_pyIter_list hq (wpAny_bind (wpAny_runValue ?_))
  have sz1 : (s.heap.push (fresh w)).objs.size = s.heap.objs.size + 1 := Heap.size_push _ _
  have hI : l ≠ (s.heap.push (fresh w)).objs.size := by rw [sz1]; exact Nat.ne_of_lt (Nat.lt_succ_of_lt lt)
  have hout : s.heap.objs.size ∉ [(s.heap.push (fresh w)).objs.size, l] := by rw [sz1]; simp only [List.mem_cons, List.not_mem_nil, or_false, not_or]; exact ⟨Nat.ne_of_lt (Nat.lt_succ_self _), Nat.ne_of_gt lt⟩
  have hz : xs.length = its.size := by rw [← Array.length_toList, hi, List.length_map]
  have hv : ∀ (i : Nat) (v : Value), its[i]? = some v → ∃ p, xs[i]? = some p ∧ v = .ref p.1 := fun i v e => by
    rw [← Array.getElem?_toList, hi, List.getElem?_map] at e
    obtain ⟨p, hp, rfl⟩ := Option.map_eq_some_iff.mp e
    exact ⟨p, hp, rfl⟩
  have old : ∀ p ∈ xs, p.1 < s.heap.objs.size := fun p hp => by
    obtain ⟨_, _, _, g, _⟩ := tps p hp
    exact Heap.lt_size g
  refine fill ((Walks.list (by simp [hh]) _ l hI its).toS) hout hz (by rw [← hz]; exact hb) (by first | omega | (simp; omega)) (fun p hp => by
    have lt := old p hp
    simp only [List.mem_cons, List.not_mem_nil, or_false, sz1]
    exact ⟨fun z => by
      rw [z] at lt
      exact absurd lt (Nat.not_lt.mpr (Nat.le_succ _)), fun z => by
      rw [z] at lt
      exact absurd lt (Nat.lt_irrefl _)⟩) hv its.size 0 _ (Nat.zero_add _) ⟨⟨_, Heap.get?_push_size _ rfl, rfl, rfl⟩, hq.push _⟩ (fun p hp => (tps p hp).to fun o g _ => Heap.get?_push_of_some _ (Heap.get?_push_of_some _ g)) (by rw [List.take_zero]; exact bag_new (Heap.get?_push_of_some _ hS)) ?_
  · intro s3 mv T3
    obtain ⟨h3, g3, d3, t3, o3⟩ := s3
    obtain rfl : g3 = s.gens := mv.gens
    obtain rfl : d3 = s.drawn := mv.drawn
    obtain rfl : o3 = s.os := mv.os
    refine wpAny_pure (wpAny_pure ⟨rfl, h3, t3, rfl, T3, fun b o e => ?_, ?_⟩)
    · have lb := Heap.lt_size e
      refine mv.heap b o (fun z => ?_) (Heap.get?_push_of_some _ (Heap.get?_push_of_some _ e))
      simp only [List.mem_cons, List.not_mem_nil, or_false] at z
      rcases z with z | z
      · exact absurd (z ▸ lb) (Nat.lt_irrefl _)
      · rw [sz1] at z
        have z2 : @Eq Nat b (s.heap.objs.size + 1) := z
        have lb2 : @LT.lt Nat _ b s.heap.objs.size := lb
        omega
    · obtain ⟨_, _, _, _, B, _⟩ := T3
      obtain ⟨_, go, _⟩ := B.ob
      exact Heap.lt_size go
theorem set_tuple {l : Addr} {its : Array Value} {xs : List (Addr × List Str)} {Q : Value → Shared → Prop} (hh : A.handled = none) (hl : s.heap.IsTuple l its) (hi : its.toList = xs.map fun p => Value.ref p.1) (tps : ∀ p ∈ xs, Tp P w s.heap p.1 p.2) (hb : xs.length + 1 < 64) (hu : A.units + 64 < cLine)
    (h : ∀ h' tk, Has P w h' s.heap.objs.size xs → (∀ b o, s.heap.get? b = some o → h'.get? b = some o) → s.heap.objs.size < h'.objs.size → Q (.ref s.heap.objs.size) { s with heap := h', toks := tk }) : wpAny (model P w) A (call (.type "set") [.ref l]) Q E s := by
  obtain ⟨cc, tl, hmro⟩ := PySem.F.called_set.mro
  have hmade := PySem.F.called_set.made; have hsub := PySem.F.called_set.sub; have h1 := PySem.F.called_set.notType; have h2 := PySem.F.called_set.canCreate; have hct := PySem.F.typeCall_set_1 (.ref l)
  refine wpAny_call (codeAny_of_tree (wpAny_pure ⟨Code.quiet_builtin _ (by decide +kernel), codeAny_builtin PySem.F.entry_type_call ?_⟩))
  rw [Around.under_plain (weight_type_call_type "set" [.ref l] []) rfl]
  repeat (any_goals (first | assumption | wp_step))
  refine codeAny_mono (new_led (.ref l) (E := E) (Q₁ := fun o s1 => o = .ref s.heap.objs.size ∧ s1 = { s with heap := s.heap.push (fresh w) }) ⟨rfl, rfl⟩) fun r s1 hr => ?_
  rcases r with er | fl
  · exact hr
  rcases fl with _ | _ | _ | ob
  · exact hr.elim
  · exact hr.elim
  · exact hr.elim
  obtain ⟨rfl, rfl⟩ := hr
  have hS : (s.heap.push (fresh w)).get? s.heap.objs.size = some (fresh w) := Heap.get?_push_size _ rfl
  have hT : Shared.TypeIs { s with heap := s.heap.push (fresh w) } (.ref s.heap.objs.size) "set" := ⟨_, hS, rfl⟩
  have hli := PySem.F.called_set.init.lookup; have hbi := PySem.F.called_set.init.bind (.ref s.heap.objs.size)
  repeat (any_goals (first | assumption | wp_step))
  refine codeAny_mono (codeAny_call_builtin (R := wants (fun r s2 => r = .none ∧ ∃ h' tk, s2 = { s with heap := h', toks := tk } ∧ Has P w h' s.heap.objs.size xs ∧ (∀ b o, s.heap.get? b = some o → h'.get? b = some o) ∧ s.heap.objs.size < h'.objs.size) E) PySem.F.called_set.init.plain PySem.F.entry_set_init (check_set_init_1 hT ?_)) fun r2 s2 hr2 => ?_
  rotate_left
  · rcases r2 with er | fl2
    · exact hr2
    rcases fl2 with _ | _ | _ | rv
    · exact hr2.elim
    · exact hr2.elim
    · exact hr2.elim
    obtain ⟨rfl, h', tk, rfl, g1, g2, g3⟩ := hr2
    repeat (any_goals (first | assumption | wp_step))
    exact h _ _ g1 g2 g3
  obtain ⟨ol, hol, hcl, nl, hdl⟩ := hl
  have lt : l < s.heap.objs.size := Heap.lt_size hol
  obtain ⟨c1, c2, c3, c4⟩ := ol
  dsimp only at hcl hdl
  subst hcl hdl
  have hol2 : (s.heap.push (fresh w)).get? l = some { cls := .type "tuple", dict := c2, data := .seq its nl, slots := c4 } := Heap.get?_push_of_some _ hol
  have hq : (s.heap.push (fresh w)).IsTuple l its := ⟨_, hol2, rfl, nl, rfl⟩
  have hsl1 := PySem.F.sub_tuple_set; have hsl2 := PySem.F.sub_tuple_frozenset
  have hne : (Value.type "tuple" == Value.type "dict") = false := by decide
  unfold Builtin.«set.__init__» noKeywords Builtin.Frozenset.updateFrom; generalize hPI : pyIter = PI
  wp_walk
  subst hPI
  refine wpAny_pyIter_tuple hq (wpAny_bind (wpAny_runValue ?_))
  have sz1 : (s.heap.push (fresh w)).objs.size = s.heap.objs.size + 1 := Heap.size_push _ _
  have hI : l ≠ (s.heap.push (fresh w)).objs.size := by rw [sz1]; exact Nat.ne_of_lt (Nat.lt_succ_of_lt lt)
  have hout : s.heap.objs.size ∉ [(s.heap.push (fresh w)).objs.size, l] := by rw [sz1]; simp only [List.mem_cons, List.not_mem_nil, or_false, not_or]; exact ⟨Nat.ne_of_lt (Nat.lt_succ_self _), Nat.ne_of_gt lt⟩
  have hz : xs.length = its.size := by rw [← Array.length_toList, hi, List.length_map]
  have hv : ∀ (i : Nat) (v : Value), its[i]? = some v → ∃ p, xs[i]? = some p ∧ v = .ref p.1 := fun i v e => by
    rw [← Array.getElem?_toList, hi, List.getElem?_map] at e
    obtain ⟨p, hp, rfl⟩ := Option.map_eq_some_iff.mp e
    exact ⟨p, hp, rfl⟩
  have old : ∀ p ∈ xs, p.1 < s.heap.objs.size := fun p hp => by
    obtain ⟨_, _, _, g, _⟩ := tps p hp
    exact Heap.lt_size g
  refine fill ((Walks.tuple (by simp [hh]) _ l hI its).toS) hout hz (by rw [← hz]; exact hb) (by first | omega | (simp; omega)) (fun p hp => by
    have lt := old p hp
    simp only [List.mem_cons, List.not_mem_nil, or_false, sz1]
    exact ⟨fun z => by
      rw [z] at lt
      exact absurd lt (Nat.not_lt.mpr (Nat.le_succ _)), fun z => by
      rw [z] at lt
      exact absurd lt (Nat.lt_irrefl _)⟩) hv its.size 0 _ (Nat.zero_add _) ⟨⟨_, Heap.get?_push_size _ rfl, rfl, rfl⟩, hq.push _⟩ (fun p hp => (tps p hp).to fun o g _ => Heap.get?_push_of_some _ (Heap.get?_push_of_some _ g)) (by rw [List.take_zero]; exact bag_new (Heap.get?_push_of_some _ hS)) ?_
  · intro s3 mv T3
    obtain ⟨h3, g3, d3, t3, o3⟩ := s3
    obtain rfl : g3 = s.gens := mv.gens
    obtain rfl : d3 = s.drawn := mv.drawn
    obtain rfl : o3 = s.os := mv.os
    refine wpAny_pure (wpAny_pure ⟨rfl, h3, t3, rfl, T3, fun b o e => ?_, ?_⟩)
    · have lb := Heap.lt_size e
      refine mv.heap b o (fun z => ?_) (Heap.get?_push_of_some _ (Heap.get?_push_of_some _ e))
      simp only [List.mem_cons, List.not_mem_nil, or_false] at z
      rcases z with z | z
      · exact absurd (z ▸ lb) (Nat.lt_irrefl _)
      · rw [sz1] at z
        have z2 : @Eq Nat b (s.heap.objs.size + 1) := z
        have lb2 : @LT.lt Nat _ b s.heap.objs.size := lb
        omega
    · obtain ⟨_, _, _, _, B, _⟩ := T3
      obtain ⟨_, go, _⟩ := B.ob
      exact Heap.lt_size go
end
end OwP

/-! set(..), len of it, sorted of it, sorted of a list: tuples of texts, over the layer. -/
namespace OwP
open PySem PySem.Spec PyProof.Rows PySem.W L2
/-- a tuple of texts as data, and how two of them stand -/
def enc (p : Addr × List Str) : PyData := .tuple (p.2.map PyData.str)
def le : (Addr × List Str) → (Addr × List Str) → Bool := dataLe false enc
theorem alike_strs : ∀ {xs ys : List Str}, xs.length = ys.length → alikeAll (xs.map PyData.str) (ys.map PyData.str) = true
  | [], [], _ => rfl
  | _ :: xs, _ :: ys, h => by
    show (true && alikeAll (xs.map PyData.str) (ys.map PyData.str)) = true
    rw [alike_strs (Nat.succ.inj h)]
    rfl
theorem dp_strs {K : PySem.W.Frag} {H : Hp} : ∀ ks : List Str, DpAll K H (ks.map V.str) (ks.map PyData.str)
  | [] => .nil
  | k :: r => .cons (.str k) (dp_strs r)
theorem each_refs : ∀ xs : List (Addr × List Str), EachIs (fun (v : Value) (p : Addr × List Str) => v = .ref p.1) (xs.map fun p => .ref p.1) xs
  | [] => .nil
  | _ :: r => .cons rfl (each_refs r)
theorem refs_each : ∀ {vs : List Value} {xs : List (Addr × List Str)}, EachIs (fun (v : Value) (p : Addr × List Str) => v = .ref p.1) vs xs → vs = xs.map fun p => .ref p.1
  | _, [], .nil => rfl
  | _, _ :: _, .cons h r => by rw [h, refs_each r]; rfl
theorem each_all {R : Value → Addr × List Str → Prop} : ∀ xs : List (Addr × List Str), (∀ p ∈ xs, R (.ref p.1) p) → EachIs R (xs.map fun p => .ref p.1) xs
  | [], _ => .nil
  | p :: r, h => .cons (h p List.mem_cons_self) (each_all r fun q hq => h q (List.mem_cons_of_mem _ hq))
theorem vals_refs : ∀ {xs : List (Addr × List Str)} {us : List Value}, Vals (xs.map fun p => V.ref p.1) us → us = xs.map fun p => .ref p.1
  | [], _, .nil => rfl
  | _ :: _, _, .cons h r => by rw [vals_refs r, show _ = Value.ref _ from h]; rfl
theorem refs_vals : ∀ xs : List (Addr × List Str), Vals (xs.map fun p => V.ref p.1) (xs.map fun p => Value.ref p.1)
  | [] => .nil
  | _ :: r => .cons rfl (refs_vals r)
theorem depth_strs : ∀ ks : List Str, (PyData.tuple (ks.map PyData.str)).depth ≤ 2
  | [] => by decide
  | k :: r => by
    have z := depth_strs r
    simp only [PyData.depth, List.map_cons] at z ⊢
    simp only [PyData.depthAll, PyData.depth] at z ⊢
    omega
section
variable {X : Cx} {pins : List (Addr × Obj)} {σ : L2.St} {H : Hp} {s : Shared}
/-- the tuples stand where they are told -/
def Tups (K : PySem.W.Frag) (H : Hp) (xs : List (Addr × List Str)) : Prop := ∀ p ∈ xs, SqT K H p.1 (p.2.map V.str)
theorem tp_of (I : Inv X pins σ H s) {p : Addr × List Str} (h : SqT X.K H p.1 (p.2.map V.str)) : Tp X.prog X.w s.heap p.1 p.2 := by
  obtain ⟨its, rv, ⟨o, go, hc, n, dt⟩, _⟩ := I.tuple h
  refine ⟨o, its.toArray, n, go, hc, dt, ?_⟩
  have z : ∀ {ks : List Str} {us : List Value}, Vals (ks.map V.str) us → ItemsAre (strKind X.prog X.w) ks us := fun {ks} => by
    induction ks with
    | nil =>
      intro us r
      cases r
      exact .nil
    | cons k r ih =>
      intro us h
      cases h with
      | cons h1 h2 =>
        obtain ⟨t, rfl⟩ := h1
        exact .cons (PySem.Froz.is_str k t) (ih h2)
  exact z (by simpa using rv)
theorem items_same {d : Nat} {xs : List (Addr × List Str)} (hd : ∀ p ∈ xs, p.2.length = d) : AllAlike (xs.map enc) := fun a ha b hb => by
  obtain ⟨p, hp, rfl⟩ := List.mem_map.mp ha
  obtain ⟨q, hq, rfl⟩ := List.mem_map.mp hb
  exact alike_strs ((hd p hp).trans (hd q hq).symm)
theorem items_sort {d : Nat} {xs : List (Addr × List Str)} (hd : ∀ p ∈ xs, p.2.length = d) (h1 : 1 ≤ d) : Sortable (xs.map enc) := Or.inl fun a ha => by
  obtain ⟨⟨q, ks⟩, hp, rfl⟩ := List.mem_map.mp ha
  have z : ks.length = d := hd _ hp
  cases ks with
  | nil =>
    rw [← z] at h1
    exact absurd h1 (by decide)
  | cons k r => exact ⟨_, _, rfl⟩
/-- sorted(xs) of a list of tuples of texts -/
def rSortTp (K : PySem.W.Frag) : List V → Hp → VK → Prop := fun vs H Q => ∃ (a : Addr) (xs : List (Addr × List Str)) (d : Nat), vs = [.ref a] ∧ SqL K H a (xs.map fun p => V.ref p.1) ∧ Tups K H xs ∧ 1 ≤ d ∧ (∀ p ∈ xs, p.2.length = d) ∧ xs.length ≤ 1000 ∧ ∀ p, H p = none → Q (.ref p) (upd H p (.lst ((xs.mergeSort le).map fun p => V.ref p.1)))
theorem cr_sortTp (hu : X.A.units + 64 < cLine) : CallR X (.builtin "sorted") (rSortTp X.K) := by
  intro pins s σ H vs us Q I r h
  obtain ⟨a, xs, d, rfl, hs, ht, h1, hd, hz, q⟩ := h
  rw [Vals.ref1 r]
  obtain ⟨its, rv, hl, _⟩ := I.list hs
  have ei := vals_refs rv
  have er : EachIs (fun v b => ∃ as, Reads s.heap v (enc b) as) its xs := by
    rw [ei]
    exact each_all xs fun p hp => Dp.reads I _ (.ref p.1) (.ref p.1) (.tup (ht p hp) (dp_strs p.2)) rfl
  refine sorted_data (vs := its) (R := fun v p => v = .ref p.1) hl.isList (by rw [ei]; exact each_refs xs) er (items_same hd) (items_sort hd h1) (by rw [sizeLine_eq]; omega) (fun p _ => by
    have z := depth_strs p.2
    show X.A.units + 2 + (PyData.tuple (p.2.map PyData.str)).depth < cLine
    omega) fun out _ eo => ?_
  have eo2 := refs_each eo
  obtain ⟨ep, he⟩ := sortedAll_at s.heap its out.toArray
  have hlen : ((xs.mergeSort le).map fun p => V.ref p.1).length ≤ sizeLine := by rw [List.length_map, List.length_mergeSort, sizeLine_eq]; omega
  exact ⟨.ref _, upd H (s.heap.objs.size + 1) (.lst ((xs.mergeSort le).map fun p => V.ref p.1)), I.laid (t' := s.toks) (fun _ _ => sortedAll_old) (Nat.le_succ _) ⟨hlen, out, ep, by rw [eo2]; exact refs_vals _, he⟩, rfl, q _ (I.hok.fresh (Nat.le_succ _))⟩
theorem reads_tp {P : Program} {w : World} {h : Heap} {b : Addr} {ks : List Str} (T : Tp P w h b ks) : Reads h (.ref b) (.tuple (ks.map PyData.str)) [] := by
  obtain ⟨o, its, n, go, hc, dt, it⟩ := T
  have z : ∀ {ks : List Str} {us : List Value}, ItemsAre (strKind P w) ks us → ReadsAll h us (ks.map PyData.str) [] := fun {ks} => by
    induction ks with
    | nil =>
      intro us r
      cases r
      exact .nil
    | cons k r ih =>
      intro us h2
      cases h2 with
      | cons h3 h4 =>
        obtain ⟨t, rfl⟩ := OwT.is_of h3
        exact .cons (as := []) (bs := []) (.str k t) (ih h4)
  exact .tuple go hc dt (z it)
/-- the set's own record -/
structure Bag0 (P : Program) (w : World) (h : Heap) (S : Addr) (L : List (Addr × List Str)) : Prop where
  ex : ∃ es ep t, (∃ o, h.get? S = some o ∧ o.ExactSet ∧ o.data = .set es ep t) ∧ es.toList = L.map (row P w) ∧ TabOk t (L.map fun p => hs P w p.2) ∧ (w.params.followText "set-order" = true ∨ t.led = true) ∧ L.length * 5 < t.mask * 3
  dis : (L.map (·.2)).Nodup
  sm : L.length < 64
def TpO (P : Program) (w : World) (S : Addr) (L : List (Addr × List Str)) : HO := .ext fun h => Bag0 P w h S L
theorem tpO_ok {P : Program} {w : World} {h : Heap} {S : Addr} {L : List (Addr × List Str)} (B : Bag0 P w h S L) : ObjOk P w H h S (TpO P w S L) := by
  have ⟨es, ep, t, ⟨o, g, _⟩, _⟩ := B.ex
  refine ⟨B, ⟨_, g⟩, fun h' _ ⟨⟨es, ep, t, ⟨o, g, x⟩, r⟩, d, m⟩ k => ⟨⟨es, ep, t, ⟨o, k _ g, x⟩, r⟩, d, m⟩⟩
theorem tpO_at (I : Inv X pins σ H s) {S : Addr} {L : List (Addr × List Str)} (h : H S = some (TpO X.prog X.w S L)) : Bag0 X.prog X.w s.heap S L := (I.hok S _ h).1
/-- set(xs) -/
def rSetTp (X : Cx) : List V → Hp → VK → Prop := fun vs H Q => ∃ (a : Addr) (xs : List (Addr × List Str)), vs = [.ref a] ∧ (SqL X.K H a (xs.map fun p => V.ref p.1) ∨ SqT X.K H a (xs.map fun p => V.ref p.1)) ∧ Tups X.K H xs ∧ xs.length ≤ 60 ∧ ∀ p L, Of xs L → (L.map (·.2)).Nodup → H p = none → Q (.ref p) (upd H p (TpO X.prog X.w p L))
theorem call_setTp (hc : X.calm = true) (hu : X.A.units + 64 < cLine) : CallR X (.type "set") (rSetTp X) := by
  intro pins s σ H vs us Q I r h
  obtain ⟨a, xs, rfl, hs, ht, hz, q⟩ := h
  rw [Vals.ref1 r]
  have fin : ∀ h' tk, Has X.prog X.w h' s.heap.objs.size xs → (∀ b o, s.heap.get? b = some o → h'.get? b = some o) → s.heap.objs.size < h'.objs.size → EP X pins σ Q (.ref s.heap.objs.size) { s with heap := h', toks := tk } := fun h' tk ⟨L, es, ep, t, B, O⟩ k lt =>
    ⟨.ref s.heap.objs.size, _, I.laid (t' := tk) k (Nat.le_refl _) (tpO_ok ⟨⟨es, ep, t, B.ob, B.rw, B.tb, B.ld, B.sp⟩, B.dis, B.sm⟩), rfl, q _ L O B.dis (I.hok.fresh (Nat.le_refl _))⟩
  have tps : ∀ p ∈ xs, Tp X.prog X.w s.heap p.1 p.2 := fun p hp => tp_of I (ht p hp)
  rcases hs with hs | hs
  · obtain ⟨its, rv, pl, _⟩ := I.list hs
    exact set_list (I.ok.hd hc) pl.isList (by simpa using vals_refs rv) tps (by omega) hu fin
  · obtain ⟨its, rv, pl, _⟩ := I.tuple hs
    exact set_tuple (I.ok.hd hc) pl (by simpa using vals_refs rv) tps (by omega) hu fin
/-- len of it -/
def rLenTp (X : Cx) : List V → Hp → VK → Prop := fun vs H Q => ∃ (a : Addr) (L : List (Addr × List Str)), vs = [.ref a] ∧ H a = some (TpO X.prog X.w a L) ∧ Q (.int L.length) H
theorem bag_fit {es : Array (Int × Value)} {t : SetTable} {P : Program} {w : World} {L : List (Addr × List Str)} (r : es.toList = L.map (row P w)) (T : TabOk t (L.map fun p => hs P w p.2)) (sp : L.length * 5 < t.mask * 3) : es.size = L.length ∧ t.fits es.size = true := by
  have a := T.sz
  have b : es.size = L.length := by rw [← Array.length_toList, r, List.length_map]
  rw [List.length_map] at a
  refine ⟨b, ?_⟩
  simp only [SetTable.fits, SetTable.fill, T.dm, Bool.and_eq_true, beq_iff_eq, decide_eq_true_eq]
  show t.place.size = es.size ∧ t.place.size + 0 ≤ t.mask
  omega
theorem call_lenTp : CallR X (.builtin "len") (rLenTp X) := by
  intro pins s σ H vs us Q I r h
  obtain ⟨a, L, rfl, ha, q⟩ := h
  rw [Vals.ref1 r]
  obtain ⟨⟨es, ep, t, ⟨o, g, xo, dt⟩, rw', T, _, sp⟩, _, sm⟩ := tpO_at I ha
  obtain ⟨z, f⟩ := bag_fit rw' T sp
  exact call_len_set g xo dt f (by rw [z]; omega) ⟨.int L.length, H, I.tok _, ⟨_, by rw [z]⟩, q⟩
/-- sorted(the set) -/
def rSortST (X : Cx) : List V → Hp → VK → Prop := fun vs H Q => ∃ (a : Addr) (L : List (Addr × List Str)) (d : Nat), vs = [.ref a] ∧ H a = some (TpO X.prog X.w a L) ∧ Tups X.K H L ∧ 1 ≤ d ∧ (∀ p ∈ L, p.2.length = d) ∧ ∀ (xs : List (Addr × List Str)) (p : Addr), xs.Perm L → H p = none → Q (.ref p) (upd H p (.lst ((xs.mergeSort le).map fun p => V.ref p.1)))
theorem call_sortST (hc : X.calm = true) (hu : X.A.units + 64 < cLine) : CallR X (.builtin "sorted") (rSortST X) := by
  intro pins s σ H vs us Q I r h
  obtain ⟨a, L, d, rfl, ha, ht, h1, hd, q⟩ := h
  rw [Vals.ref1 r]
  obtain ⟨⟨es, ep, t, ⟨o, g, xo, dt⟩, rw', T, ld, sp⟩, _, sm⟩ := tpO_at I ha
  obtain ⟨z, f⟩ := bag_fit rw' T sp
  have fb : es.size < scanBound := by unfold scanBound; omega
  refine Calls.call_function_entry kind_sorted plain_sorted entry_sorted (args_sorted1 _) ?_
  unfold Builtin.«sorted»
  refine wpAny_bind (m := checkCount "sorted" 1 1 _) (wpAny_pure (wpAny_bind (collect_set (A := X.A.in1) (I.ok.hd hc) ⟨o, g, xo.1, dt⟩ f fb T.ris ld fun s1 ws k1 hz g1 o1 pm => ?_)))
  have pm2 : ws.Perm (L.map fun p => Value.ref p.1) := by
    rw [rw', List.map_map] at pm
    exact pm
  obtain ⟨xs, ew, px⟩ := perm_unmap (fun p : Addr × List Str => Value.ref p.1) pm2 L rfl
  have hd' : ∀ p ∈ xs, p.2.length = d := fun p hp => hd p (px.mem_iff.mp hp)
  have zx : xs.length = L.length := px.length_eq
  have wl : ws.length = xs.length := by rw [ew, List.length_map]
  refine wpAny_bind (wpAny_newList ?_ (by rw [sizeLine_eq]; omega))
  have hoL : (s1.heap.push (seqObj "list" ws.toArray 0)).get? s1.heap.objs.size = some (seqObj "list" ws.toArray 0) := Heap.get?_push_size _ rfl
  have er : EachIs (fun v b => ∃ as, Reads (s1.heap.push (seqObj "list" ws.toArray 0)) v (enc b) as ∧ s1.heap.objs.size ∉ as) ws xs := by
    rw [ew]
    exact each_all xs fun p hp => ⟨[], reads_tp ((tp_of I (ht p (px.mem_iff.mp hp))).to fun o g _ => Heap.get?_push_of_some _ (k1 _ _ g)), fun z => nomatch z⟩
  refine wpAny_bind (wpAny_holding (list_sort_data (R := fun v p => v = .ref p.1) hoL (by rw [ew]; exact each_refs xs) er (items_same hd') (items_sort hd' h1) (by rw [sizeLine_eq]; omega) (fun p _ => by
    have z := depth_strs p.2
    show X.A.in1.units + 1 + (PyData.tuple (p.2.map PyData.str)).depth < cLine
    have y : X.A.in1.units = X.A.units + 1 := rfl
    omega) fun out _ eo => ?_))
  have eo2 := refs_each eo
  obtain ⟨c, hcc⟩ := sortedHeap_at (vs := ws) (out := out.toArray) hoL
  have hn : H s1.heap.objs.size = none := I.hok.fresh hz
  have hlen : ((xs.mergeSort le).map fun p => V.ref p.1).length ≤ sizeLine := by rw [List.length_map, List.length_mergeSort, sizeLine_eq]; omega
  have keep : ∀ b o, s.heap.get? b = some o → (sortedHeap (s1.heap.push (seqObj "list" ws.toArray 0)) s1.heap.objs.size ws out.toArray).get? b = some o := fun b o e => by
    have e1 := k1 b o e
    have lt := Heap.lt_size e1
    rw [sortedHeap_old (Nat.ne_of_lt lt) (by rw [size_push']; exact Nat.lt_succ_of_lt lt)]
    exact Heap.get?_push_of_some _ e1
  obtain ⟨h1', gg, dd, tk, os⟩ := s1
  dsimp only at g1 o1
  subst g1 o1
  have J : Inv X pins σ (upd H h1'.objs.size (.lst ((xs.mergeSort le).map fun p => V.ref p.1))) { s with heap := sortedHeap (h1'.push (seqObj "list" ws.toArray 0)) h1'.objs.size ws out.toArray, gens := s.gens, drawn := dd, toks := tk } :=
    I.call (ch := []) (Un.laid keep hz hn) (I.hok.laid keep hz ⟨hlen, _, c, by rw [eo2]; exact refs_vals _, hcc⟩) I.bare (fun _ z => nomatch z)
  exact wpAny_pure ⟨_, rfl, .ref h1'.objs.size, _, J, rfl, q xs _ px hn⟩
end
end OwP

/-! min and max of two texts; < of two tuples of texts; how pairs of texts stand. -/
namespace OwL2
open PySem PySem.Spec PyProof.Rows L2
/-- the lesser text by its signs -/
def lt (a b : Str) : Bool := decide (a.cps.toList < b.cps.toList)
section
variable {P : Program} {w : World} {A : Around} {E : Value → Shared → Prop} {s : Shared}
def item (a b : Str) (i : Nat) : Str := if i = 0 then a else b
theorem two_at {a b : Str} {t u : Tok} {i : Nat} {v : Value} (h : (#[Value.str a t, Value.str b u] : Array Value)[i]? = some v) : ∃ z, v = .str (item a b i) z := by
  match i, h with
  | 0, h =>
    cases (show some (Value.str a t) = some v from h)
    exact ⟨t, rfl⟩
  | 1, h =>
    cases (show some (Value.str b u) = some v from h)
    exact ⟨u, rfl⟩
  | n + 2, h =>
    have z : (#[Value.str a t, Value.str b u] : Array Value)[n + 2]? = none := Array.getElem?_eq_none (by simp)
    rw [z] at h
    cases h
theorem two_walk {a b : Str} {t u : Tok} (hh : A.handled = none) {op : CmpOp} {bt : Nat → Nat → Bool} {Q : Value → Shared → Prop} (cmp : CmpOf P w A.in1 op (fun i v => (#[Value.str a t, Value.str b u] : Array Value)[i]? = some v) bt)
    (q : ∀ v h' tk, (∃ z, v = Value.str (item a b (argBest bt 1)) z) → (∀ c o, s.heap.get? c = some o → h'.get? c = some o) → Q v { s with heap := h', toks := tk }) :
    wpAny (model P w) A.in1 (pyIter (.ref s.heap.objs.size)) (fun it s₂ => ∃ I fp wr n Pv St bt, it = .ref I ∧ Walks P w A.in1 I fp wr n Pv St ∧ St 0 s₂.heap ∧ (∀ b ∈ fp, b < s₂.heap.objs.size) ∧ 0 < n ∧ CmpOf P w A.in1 op Pv bt ∧
      ∀ v h' tk, Pv (argBest bt (n - 1)) v → (∀ b o, b ∉ wr → s₂.heap.get? b = some o → h'.get? b = some o) → Q v { s₂ with heap := h', toks := tk }) E { s with heap := s.heap.push { cls := .type "tuple", data := .seq #[.str a t, .str b u] } } := by
  have hT : (s.heap.push { cls := .type "tuple", data := .seq #[.str a t, .str b u] }).IsTuple s.heap.objs.size #[.str a t, .str b u] := ⟨_, Heap.get?_push_size _ rfl, rfl, 0, rfl⟩
  have hsz : (s.heap.push { cls := .type "tuple", data := .seq #[.str a t, .str b u] }).objs.size = s.heap.objs.size + 1 := Heap.size_push ..
  refine wpAny_pyIter_tuple hT ⟨_, [_, s.heap.objs.size], [_], _, _, _, bt, rfl, Walks.tuple (A := A.in1) hh _ s.heap.objs.size (by rw [hsz]; exact Nat.ne_of_lt (Nat.lt_succ_self _)) #[.str a t, .str b u], ⟨⟨_, Heap.get?_push_size _ rfl, rfl, rfl⟩, hT.push _⟩, fun c hc => ?_, (by show 0 < 2; decide), cmp, fun v h' tk hP hk => q v h' tk (two_at hP) fun c o e => ?_⟩
  · show c < ((s.heap.push _).push _).objs.size
    rw [Heap.size_push, hsz]
    rcases List.mem_cons.mp hc with rfl | hc
    · rw [hsz]
      exact Nat.lt_succ_self _
    · rw [List.mem_singleton.mp hc]
      exact Nat.lt_succ_of_lt (Nat.lt_succ_self _)
  · refine hk c o (fun hm => ?_) (Heap.get?_push_of_some _ (Heap.get?_push_of_some _ e))
    have lt := Heap.lt_size e
    rw [List.mem_singleton.mp hm, hsz] at lt
    exact Nat.lt_irrefl _ (Nat.lt_of_succ_lt lt)
theorem cmp_lt {a b : Str} {t u : Tok} : CmpOf P w A .Lt (fun i v => (#[Value.str a t, Value.str b u] : Array Value)[i]? = some v) (fun i j => lt (item a b i) (item a b j)) := fun i j vi vj s Q E hi hj q => by
  obtain ⟨z, rfl⟩ := two_at hi
  obtain ⟨y, rfl⟩ := two_at hj
  exact richCompare_gives (op := .Lt) (typeIs_str s _ z) (typeIs_str s _ y) PySem.F.slot_str_lt PySem.F.entry_str_lt (PySem.F.args_str_lt_2 _ _) (gives_str_lt _ _ z y) (fun e => nomatch e) q
theorem cmp_gt {a b : Str} {t u : Tok} : CmpOf P w A .Gt (fun i v => (#[Value.str a t, Value.str b u] : Array Value)[i]? = some v) (fun i j => lt (item a b j) (item a b i)) := fun i j vi vj s Q E hi hj q => by
  obtain ⟨z, rfl⟩ := two_at hi
  obtain ⟨y, rfl⟩ := two_at hj
  exact richCompare_gives (op := .Gt) (typeIs_str s _ z) (typeIs_str s _ y) PySem.F.slot_str_gt PySem.F.entry_str_gt (PySem.F.args_str_gt_2 _ _) (gives_str_gt _ _ z y) (fun e => nomatch e) q
end
def minS (a b : Str) : Str := if lt b a = true then b else a
def maxS (a b : Str) : Str := if lt a b = true then b else a
section
variable {X : Cx}
theorem call_minS (hc : X.calm = true) : CallR X (.builtin "min") (fun xs H Q => ∃ a b, xs = [.str a, .str b] ∧ Q (.str (minS a b)) H) := by
  intro pins s σ H xs us Q I r h
  obtain ⟨a, b, rfl, q⟩ := h
  obtain ⟨u, w', rfl, ⟨t, rfl⟩, ⟨t', rfl⟩⟩ := vals2 r
  refine call_min_two (two_walk (I.ok.hd hc) cmp_lt fun v h' tk ⟨z, hv⟩ k => ⟨.str (minS a b), H, I.kept k, ⟨z, ?_⟩, q⟩)
  rw [hv]
  have e : item a b (argBest (fun i j => lt (item a b i) (item a b j)) 1) = minS a b := by
    show item a b (if lt (item a b 1) (item a b 0) = true then 1 else 0) = if lt b a = true then b else a
    by_cases c : lt b a = true
    · rw [if_pos c, if_pos (show lt (item a b 1) (item a b 0) = true from c)]
      rfl
    · rw [if_neg c, if_neg (show ¬ lt (item a b 1) (item a b 0) = true from c)]
      rfl
  rw [e]
theorem call_maxS (hc : X.calm = true) : CallR X (.builtin "max") (fun xs H Q => ∃ a b, xs = [.str a, .str b] ∧ Q (.str (maxS a b)) H) := by
  intro pins s σ H xs us Q I r h
  obtain ⟨a, b, rfl, q⟩ := h
  obtain ⟨u, w', rfl, ⟨t, rfl⟩, ⟨t', rfl⟩⟩ := vals2 r
  refine call_max_two (two_walk (I.ok.hd hc) cmp_gt fun v h' tk ⟨z, hv⟩ k => ⟨.str (maxS a b), H, I.kept k, ⟨z, ?_⟩, q⟩)
  rw [hv]
  have e : item a b (argBest (fun i j => lt (item a b j) (item a b i)) 1) = maxS a b := by
    show item a b (if lt (item a b 0) (item a b 1) = true then 1 else 0) = if lt a b = true then b else a
    by_cases c : lt a b = true
    · rw [if_pos c, if_pos (show lt (item a b 0) (item a b 1) = true from c)]
      rfl
    · rw [if_neg c, if_neg (show ¬ lt (item a b 0) (item a b 1) = true from c)]
      rfl
  rw [e]
/-- < of two that stand as data of one shape -/
def rLtD (K : PySem.W.Frag) : R2 := fun x y H Q => ∃ d e, Dp K H x d ∧ Dp K H y e ∧ PySem.W.alike d e = true ∧ d ≠ .none ∧ d.depth ≤ 60 ∧ Q (.bl (PySem.W.dataLt d e)) H
theorem op_ltD (hu : X.A.units + 64 < cLine) : OpR X (compareOp .Lt) (rLtD X.K) := by
  intro pins s σ H x y v u Q I rx ry h
  obtain ⟨d, e, hd, he, al, nn, dp, q⟩ := h
  obtain ⟨as, r1⟩ := Dp.reads I d x v hd rx
  obtain ⟨bs, r2⟩ := Dp.reads I e y u he ry
  have z := PySem.W.rcLt_alike d e X.A s v u as bs r1 r2 al nn (by omega)
  exact z X.prog X.w X.xe _ ⟨.bl (PySem.W.dataLt d e), H, I, rfl, q⟩
end
/-- pairs of texts: by the first, then by the second -/
def ltP (p q : Str × Str) : Bool := if p.1 = q.1 then lt p.2 q.2 else lt p.1 q.1
theorem eqv_str (a b : Str) : PyData.eqv (.str a) (.str b) = decide (a = b) := by
  simp only [PyData.eqv]
  by_cases c : a = b
  · rw [c]; simp
  · simp [c]
theorem dataLt_pairS (p q : Str × Str) : PySem.W.dataLt (.tuple [.str p.1, .str p.2]) (.tuple [.str q.1, .str q.2]) = ltP p q := by
  rw [PySem.W.dataLt_pair rfl rfl, eqv_str, eqv_str, PySem.W.dataLt_str, PySem.W.dataLt_str]
  unfold ltP lt
  by_cases c : p.1 = q.1
  · rw [if_pos (decide_eq_true c), if_pos c]
    by_cases d : p.2 = q.2
    · rw [if_pos (decide_eq_true d), d]
      have n : ¬ q.2.cps.toList < q.2.cps.toList := List.lt_irrefl _
      rw [decide_eq_false n]
    · rw [if_neg (by rw [decide_eq_true_eq]; exact d)]
  · rw [if_neg (by rw [decide_eq_true_eq]; exact c), if_neg c]
end OwL2

/-! list(d.values()), tuple(d.values()). -/
namespace OwV
open PySem PySem.Spec PyProof.Rows L2 PySem.W
section
variable {prog : Program} {w : World} {A : Around} {E : Value → Shared → Prop} {s : Shared} {T : String} {r d : Addr} {n : Nat} {P : Nat → Value → Prop} {OK : Heap → Prop}
theorem collect_src {Q : List Value → Shared → Prop} (S : KdlSrc prog w T r d n P OK) (hh : A.handled = none) (ok : OK s.heap) (hn : n ≤ sizeLine) (hQ : ∀ h' tk acc, (∀ b o, s.heap.get? b = some o → h'.get? b = some o) → ItemsOf P acc n → Q acc.toList { s with heap := h', toks := tk }) :
    wpAny (model prog w) A (collect (.ref r)) Q E s := by
  have hlt := S.there _ ok
  have gL : (s.heap.push { cls := .type "list", data := .seq #[] }).get? s.heap.objs.size = some { cls := .type "list", data := .seq #[] 0 } := Heap.get?_push_size _ rfl
  unfold collect
  refine wpAny_bind (wpAny_runValue (codeAny_builtin PySem.F.entry_proto_collect ?_)); rw [Around.under_plainId PySem.F.plain_proto_collect _]
  refine wpAny_bind (m := newList []) (wpAny_newObj_type (wpAny_pure ⟨plainId_quiet PySem.F.plain_list_iadd _, codeAny_builtin PySem.F.entry_list_iadd ?_⟩))
  rw [Around.under_plainId PySem.F.plain_list_iadd _]
  have done : ∀ (r' : Result) (s' : Shared), (∃ h' tk acc c, r' = .ok (.ret (.ref s.heap.objs.size)) ∧ s' = { s with heap := h', toks := tk } ∧ (∀ b o, b ≠ s.heap.objs.size → (s.heap.push { cls := .type "list", data := .seq #[] }).get? b = some o → h'.get? b = some o) ∧
      h'.get? s.heap.objs.size = some { cls := .type "list", dict := none, data := .seq acc c, slots := #[] } ∧ ItemsOf P acc n) → r' = .ok (.ret (.ref s.heap.objs.size)) ∧ wpAny (model prog w) A (do match (← load s.heap.objs.size).data with | Data.seq xs _ => pure xs.toList | _ => unsupported "internal:collect") Q E s' := by
    rintro r' s' ⟨h', tk, acc, c, rfl, rfl, k, g, it⟩
    exact ⟨rfl, wpAny_bind (wpAny_load g (wpAny_pure (hQ h' tk acc (fun b o e => k b o (Nat.ne_of_lt (Heap.lt_size e)) (Heap.get?_push_of_some _ e)) it)))⟩
  show wpAny _ A.in1 (Builtin.List.listExtendWith (.ref s.heap.objs.size) (.ref r) (.ref s.heap.objs.size)) _ _ { s with heap := s.heap.push { cls := .type "list", data := .seq #[] } }
  refine wpAny_mono (kdl_extend (A := A) (s := { s with heap := s.heap.push { cls := .type "list", data := .seq #[] } }) (R := fun r' s' => ∃ h' tk acc c, r' = .ok (.ret (.ref s.heap.objs.size)) ∧ s' = { s with heap := h', toks := tk } ∧ (∀ b o, b ≠ s.heap.objs.size → (s.heap.push { cls := .type "list", data := .seq #[] }).get? b = some o → h'.get? b = some o) ∧
      h'.get? s.heap.objs.size = some { cls := .type "list", dict := none, data := .seq acc c, slots := #[] } ∧ ItemsOf P acc n) S hh (S.keep _ _ ok fun b _ o e => Heap.get?_push_of_some _ e) s.heap.objs.size (Nat.ne_of_gt hlt.1) (Nat.ne_of_gt hlt.2) _ 0 gL (fun h' tk acc c k g it => ⟨h', tk, acc, c, rfl, rfl, k, g, it⟩) hn) (fun fin s' hf => ?_) (fun e s' hf => ?_)
  · cases fin with
    | done f =>
      obtain ⟨e1, q⟩ := done _ _ hf
      cases e1
      exact q
    | again c' => exact ⟨hf.1, codeAny_mono hf.2 fun r2 s2 hr => by
        obtain ⟨e1, q⟩ := done _ _ hr
        subst e1
        exact q⟩
  · obtain ⟨e1, _⟩ := done _ _ hf
    cases e1
theorem tuple_src {Q : Value → Shared → Prop} (S : KdlSrc prog w T r d n P OK) (hh : A.handled = none) (ok : OK s.heap) (hn : n ≤ sizeLine)
    (hQ : ∀ (h' : Heap) (tk : Nat) (acc : Array Value), (∀ b o, s.heap.get? b = some o → h'.get? b = some o) → ItemsOf P acc n → Q (.ref h'.objs.size) { s with heap := h'.push { cls := .type "tuple", data := .seq acc }, toks := tk }) :
    wpAny (model prog w) A (call (.type "tuple") [.ref r]) Q E s := by
  refine callType_codes (Q₁ := fun obj s1 => s1.TypeIs obj "tuple" ∧ Q obj s1) PySem.F.called_tuple (PySem.F.typeCall_tuple_1 _) PySem.F.entry_object_init ?_ fun obj s1 hq => ⟨hq.1, PySem.F.args_object_init_2 obj _, object_init_meets PySem.F.called_tuple.init.lookup PySem.F.called_tuple.made (by decide) prog w A.in1 _ s1 ⟨hq.1, rfl, hq.2⟩⟩
  refine codeAny_of_tree (wpAny_bind (wpAny_of_eq (PySem.F.newCall_tuple_1 _) (wpAny_pure ⟨plainId_quiet PySem.F.plain_tuple_new _, codeAny_builtin PySem.F.entry_tuple_new ?_⟩)))
  rw [Around.under_plainId PySem.F.plain_tuple_new _]
  have hT : s.TypeIs (.ref r) T := S.type s ok
  obtain ⟨hp, g, dr, tk, os⟩ := s
  have hsub := sub_tuple_self; have hinit := init_tuple_lookup; have hmh := madeHere_tuple
  have nt := S.notTuple
  have hh2 : A.in1.in1.handled = none := by simp [hh]
  wp_walk using wpAny_typeOf hT, collect_src (A := A.in1.in1) S hh2 ok hn
  intro h' t2 acc k it
  have e : acc.toList.toArray = acc := by simp
  show wpAny _ _ (Builtin.Tuple.tupleExact acc.toList.toArray >>= fun v => ret v) _ _ _
  rw [e]
  unfold Builtin.Tuple.tupleExact
  refine wpAny_bind (wpAny_newObj_type ?_ (by show acc.size ≤ sizeLine; rw [it.1]; exact hn))
  exact wpAny_pure ⟨⟨_, Heap.get?_push_size _ rfl, rfl⟩, hQ h' t2 acc k it⟩
end
section
variable {X : Cx} {e : Expr} {te : TE} {p apos cpos pos : Pos}
/-- list(e.values()), tuple(e.values()) -/
def tVals (mk : List V → HO) (te : TE) : TE := fun σ H Q => te σ H fun x H1 => ∃ (d : Addr) (kvs : List (Key × V)), x = .ref d ∧ H1 d = some (.dK kvs) ∧ kvs.length ≤ sizeLine ∧ ∀ q, H1 q = none → Q (.ref q) (upd H1 q (mk (kvs.map (·.2))))
theorem vals_of_items {kvs : List (Key × V)} {vs : List (Key × Value)} {acc : Array Value} (kv : KV kvs vs) (it : ItemsOf (fun i v => ∃ k, vs[i]? = some (k, v)) acc vs.length) : Vals (kvs.map (·.2)) acc.toList := by
  have ea : acc.toList = vs.map (·.2) := by
    apply List.ext_getElem
    · rw [Array.length_toList, it.1, List.length_map]
    · intro i h1 h2
      have hi : i < acc.size := by rw [Array.length_toList] at h1; exact h1
      obtain ⟨k, ek⟩ := it.2 i _ (Array.getElem?_eq_getElem hi)
      rw [List.getElem_map, Array.getElem_toList]
      have z := (List.getElem?_eq_some_iff.mp ek).2
      rw [z]
  rw [ea]
  have z : ∀ {kvs : List (Key × V)} {vs : List (Key × Value)}, KV kvs vs → Vals (kvs.map (·.2)) (vs.map (·.2)) := fun kv => by
    induction kv with
    | nil => exact .nil
    | cons h _ ih => exact .cons h.2 ih
  exact z kv
theorem pe_listVals (hc : X.calm = true) (he : PE X e te) (hg : Gl X "list") (hm : X.mg "list" = none) (hv : bootBuiltins "list" = some (.type "list")) (hbase : attributeBase e "values" X.env (eval e X.env) = eval e X.env := by rfl) (hline : (apos.endLine == cpos.line) = true := by rfl)
    (hs : starEach [.Call (.Attribute e "values" apos) [] [] cpos] X.env = (false, eval (.Call (.Attribute e "values" apos) [] [] cpos) X.env) :: starEach [] X.env := by rfl) : PE X (.Call (.Name "list" p) [.Call (.Attribute e "values" apos) [] [] cpos] [] pos) (tVals .lst te) := by
  refine ⟨fun pins s σ H Q I hq => wpAny_Call_Name_kw (ld_blt I hg hm hv (PyProof.Rows.callWith_type1 ?_ hs rfl))⟩
  rw [hs]
  show wpAny _ _ (spliced ((false, eval (.Call (.Attribute e "values" apos) [] [] cpos) X.env) :: backTo pos (starEach [] X.env))) _ _ s
  refine Calls.spliced_cons (wpAny_Call_method (T := "dict") (id := "dict.values") hbase rfl hline PySem.F.plainAttrs_dict PySem.F.slot_dict_values PySem.F.type_dict_values (thn (he.run pins s σ H _ I hq) fun u s1 ⟨x, H1, I1, rx, d, kvs, ex, hd, hz1, q⟩ => ?_))
  subst ex
  obtain rfl : u = Value.ref d := rx
  obtain ⟨hz, hs0, vs, kv, hdo⟩ := I1.hok d _ hd
  obtain ⟨ep, hat⟩ := hdo.dictAt
  have lk : kvs.length = vs.length := Paired.length kv
  have I2 : Inv X pins σ H1 { s1 with heap := s1.heap.push { cls := .type "dict_values", data := .fields #[.ref d] } } := I1.kept (t' := s1.toks) fun b ob q => Heap.get?_push_of_some _ q
  refine ⟨hdo.typeIs, hdo.mapOf.noDict, ?_⟩
  show wpAny _ _ (callWith cpos (.builtin "dict.values") [.ref d] [] []) _ X.xe s1
  refine method_meetsIn PySem.F.slot_dict_values PySem.F.entry_dict_values rfl (PySem.evalArgs_none ⟨rfl, hdo.typeIs, PySem.F.args_dict_values_1 _, _, meets_dict_values (mixKind X.prog X.w) d hs0, ⟨vs, hdo⟩, Calls.spliced_nil ?_⟩)
  refine kdl_call (kdl_values (knd := mixKind X.prog X.w) (kvs := vs) (ep := ep)) (I1.ok.hd hc) ⟨⟨_, Heap.get?_push_size _ rfl, rfl, rfl⟩, hat.push _⟩ (by omega) fun h' tk acc c k g it => ?_
  have rv := vals_of_items kv it
  have zl : (kvs.map (·.2)).length ≤ sizeLine := by rw [List.length_map]; omega
  exact ⟨.ref _, _, I2.laid (o := .lst (kvs.map (·.2))) (t' := tk) k (Nat.le_refl _) ⟨zl, acc.toList, c, rv, by rw [Array.toArray_toList]; exact g⟩, rfl, q _ (I2.hok.fresh (Nat.le_refl _))⟩
theorem pe_tupVals (hc : X.calm = true) (he : PE X e te) (hg : Gl X "tuple") (hm : X.mg "tuple" = none) (hv : bootBuiltins "tuple" = some (.type "tuple")) (hbase : attributeBase e "values" X.env (eval e X.env) = eval e X.env := by rfl) (hline : (apos.endLine == cpos.line) = true := by rfl)
    (hs : starEach [.Call (.Attribute e "values" apos) [] [] cpos] X.env = (false, eval (.Call (.Attribute e "values" apos) [] [] cpos) X.env) :: starEach [] X.env := by rfl) : PE X (.Call (.Name "tuple" p) [.Call (.Attribute e "values" apos) [] [] cpos] [] pos) (tVals .tup te) := by
  refine ⟨fun pins s σ H Q I hq => wpAny_Call_Name_kw (ld_blt I hg hm hv (PyProof.Rows.callWith_type1 ?_ hs rfl))⟩
  rw [hs]
  show wpAny _ _ (spliced ((false, eval (.Call (.Attribute e "values" apos) [] [] cpos) X.env) :: backTo pos (starEach [] X.env))) _ _ s
  refine Calls.spliced_cons (wpAny_Call_method (T := "dict") (id := "dict.values") hbase rfl hline PySem.F.plainAttrs_dict PySem.F.slot_dict_values PySem.F.type_dict_values (thn (he.run pins s σ H _ I hq) fun u s1 ⟨x, H1, I1, rx, d, kvs, ex, hd, hz1, q⟩ => ?_))
  subst ex
  obtain rfl : u = Value.ref d := rx
  obtain ⟨hz, hs0, vs, kv, hdo⟩ := I1.hok d _ hd
  obtain ⟨ep, hat⟩ := hdo.dictAt
  have lk : kvs.length = vs.length := Paired.length kv
  have I2 : Inv X pins σ H1 { s1 with heap := s1.heap.push { cls := .type "dict_values", data := .fields #[.ref d] } } := I1.kept (t' := s1.toks) fun b ob q => Heap.get?_push_of_some _ q
  refine ⟨hdo.typeIs, hdo.mapOf.noDict, ?_⟩
  show wpAny _ _ (callWith cpos (.builtin "dict.values") [.ref d] [] []) _ X.xe s1
  refine method_meetsIn PySem.F.slot_dict_values PySem.F.entry_dict_values rfl (PySem.evalArgs_none ⟨rfl, hdo.typeIs, PySem.F.args_dict_values_1 _, _, meets_dict_values (mixKind X.prog X.w) d hs0, ⟨vs, hdo⟩, Calls.spliced_nil ?_⟩)
  refine tuple_src (kdl_values (knd := mixKind X.prog X.w) (kvs := vs) (ep := ep)) (I1.ok.hd hc) ⟨⟨_, Heap.get?_push_size _ rfl, rfl, rfl⟩, hat.push _⟩ (by omega) fun h' tk acc k it => ?_
  have rv := vals_of_items kv it
  have zl : (kvs.map (·.2)).length ≤ sizeLine := by rw [List.length_map]; omega
  have I3 : Inv X pins σ H1 { s1 with heap := h', toks := tk } := I2.kept (t' := tk) k
  exact ⟨.ref _, _, I3.laid (o := .tup (kvs.map (·.2))) (t' := tk) (fun b o e => Heap.get?_push_of_some _ e) (Nat.le_refl _) ⟨zl, acc.toList, rv, by rw [Array.toArray_toList]; exact IsTup.new _ _⟩, rfl, q _ (I3.hok.fresh (Nat.le_refl _))⟩
end
end OwV

namespace Rd
open PySem PySem.Spec PyProof.Rows L2 OwX
theorem itup' {σ : L2.St} {H : Hp} {K : PySem.W.Frag} {tl : TE} {R : It → Hp → Prop} (q : tl σ H fun x H1 => ∃ a, x = .ref a ∧ (∃ xs, SqT K H1 a xs) ∧ R (Itt K a) H1) : iTup K tl σ H R := q
end Rd
namespace OwW
open PySem L2 L2H OwX Rd Evl
def strOf1 : PyData → Option Str
  | .str x => some x
  | _ => none
def strsOf (ds : List PyData) : List Str := ds.filterMap strOf1
theorem strs_of : ∀ {ds : List PyData}, ds.all nameD = true → ds = (strsOf ds).map PyData.str
  | [], _ => rfl
  | .str x :: r, h => by
    have h2 : (nameB x && r.all nameD) = true := h
    have z := strs_of (Bool.and_eq_true_iff.mp h2).2
    show PyData.str x :: r = PyData.str x :: (strsOf r).map PyData.str
    rw [← z]
  | .none :: r, h => by simp [nameD] at h
  | .bool _ :: r, h => by simp [nameD] at h
  | .int _ :: r, h => by simp [nameD] at h
  | .list _ :: r, h => by simp [nameD] at h
  | .tuple _ :: r, h => by simp [nameD] at h
  | .dict _ :: r, h => by simp [nameD] at h
theorem dh_strs {H : Hp} : ∀ {vs : List V} {ns : List Str}, DhAll H vs (ns.map PyData.str) → vs = ns.map V.str
  | _, [], .nil => rfl
  | _, _ :: _, .cons h r => by
    cases h
    rw [dh_strs r]
    rfl
theorem units1 {k : Nat} {A : Around} (r : Room k A) : A.units + 1 < cLine := by
  have := r.units
  omega
section
variable {P : Program} {w : World} {K : PySem.W.Frag} {mg : Str → Option Value} {base : Heap}
abbrev NJu : List Str := ["value", "keys", "key"]
def justB (ys : List Str) (kvs : List (Key × V)) : Bool := decide (kvs.length = ys.length) && ys.all (fun n => (valV kvs (Sum.inr n : Key)).isSome)
def spJust : Sp := fun vs H Q _ => ∃ (vv : V) (dv : PyData) (kl : Addr) (ys : List Str), vs = [vv, .ref kl] ∧ Dh H vv dv ∧ H kl = some (.lst (ys.map V.str)) ∧ ys.length ≤ 1000 ∧ (isD dv "dict" = false → ∀ H', Ex H H' → Q (.bl false) H') ∧
  ∀ (a : Addr) (kvs : List (Key × V)), vv = .ref a → H a = some (.dK kvs) → kvs.length ≤ 1000 ∧ ∀ H', Ex H H' → Q (.bl (justB ys kvs)) H'
theorem all_perm {α : Type} {ys zs : List α} (h : ∀ z, z ∈ ys ↔ z ∈ zs) (p : α → Bool) : ys.all p = zs.all p := by
  rw [Bool.eq_iff_iff, List.all_eq_true, List.all_eq_true]
  exact ⟨fun a z hz => a z ((h z).mpr hz), fun a z hz => a z ((h z).mp hz)⟩
end
end OwW

namespace Rd
open PySem PySem.Spec PyProof.Rows L2 OwX
theorem for' {wi : TI} {g : TG} {tb : TS} {D : Ends} {σ : L2.St} {H : Hp} (q : wi σ H fun J H1 => ∃ W : Nat → Nat → L2.St → Hp → Prop, (∃ m, W 0 m σ H1) ∧ ∀ i m σ H, W i m σ H →
  (J.stop i H ∧ D.nx σ H) ∨ (J.go i H ∧ ∃ N : L2.St → Hp → Prop, (∀ σ' H', N σ' H' → ∃ m', m' < m ∧ W (i + 1) m' σ' H') ∧ ∀ x H', J.yld i H x H' → g x σ H' fun σ2 H2 => tb { D with nx := N, ct := N, bk := D.nx } σ2 H2)) : tFor wi g tb D σ H := q
theorem brk {D : Ends} {σ : L2.St} {H : Hp} (q : D.bk σ H) : tBreak D σ H := q
theorem par2 {i j : Nat} {D : Ends} {ta : TA} {σ : L2.St} {H : Hp} (q : ta σ H fun vs H1 => ∃ v w, vs = [v, w] ∧ D.nx ((σ.set i (some v)).set j (some w)) H1) : tPar i j ta D σ H := q
end Rd
namespace OwW
open PySem L2 L2H OwX Rd Evl
/-- the heap but for a -/
def wo (a : Addr) (H : Hp) : Hp := fun b => if b = a then none else H b
theorem wo_of {a b : Addr} {H : Hp} {o : HO} (h : H b = some o) (n : b ≠ a) : wo a H b = some o := (if_neg n).trans h
theorem wo_in (a : Addr) (H : Hp) : Ex (wo a H) H := fun b o h => by
  unfold wo at h
  split at h
  · cases h
  · exact h
theorem wo_ex {a : Addr} {H H' : Hp} (e : Ex H H') : Ex (wo a H) (wo a H') := fun b o h => by
  unfold wo at h ⊢
  split at h
  · cases h
  · rename_i n
    rw [if_neg n]
    exact e _ _ h
/-- from H to H' only the dice at a have been thrown, and new things have come -/
structure DX (a : Addr) (H H' : Hp) : Prop where
  ex : Ex (wo a H) (wo a H')
  at_ : ∃ l s n, DiceOk l s n ∧ H' a = some (dice l s n)
theorem DX.trans {a : Addr} {H H1 H2 : Hp} (x : DX a H H1) (y : DX a H1 H2) : DX a H H2 := ⟨x.ex.trans y.ex, y.at_⟩
theorem DX.of {a : Addr} {H H' : Hp} (e : Ex H H') (h : ∃ l s n, DiceOk l s n ∧ H a = some (dice l s n)) : DX a H H' := ⟨wo_ex e, let ⟨l, s, n, d, z⟩ := h; ⟨l, s, n, d, e _ _ z⟩⟩
theorem DX.then {a : Addr} {H H1 H2 : Hp} (x : DX a H H1) (e : Ex H1 H2) : DX a H H2 := x.trans (DX.of e x.at_)
theorem DX.throw {a : Addr} {H : Hp} {l s n : Int} (d : DiceOk l s n) : DX a H (upd H a (dice l s n)) := ⟨fun b o h => by
  unfold wo at h ⊢
  split at h
  · cases h
  · rename_i c
    rw [if_neg c, upd_ne c]
    exact h, ⟨l, s, n, d, upd_same⟩⟩
structure BltL (mg : Str → Option Value) : Prop where
  range : mg "range" = none
  isinst : mg "isinstance" = none
  str : mg "str" = none
  len : mg "len" = none
  list : mg "list" = none
def HasDice (H : Hp) (a : Addr) : Prop := ∃ l s n, DiceOk l s n ∧ H a = some (dice l s n)
theorem DX.mut {a D : Addr} {H H1 : Hp} {o : HO} (x : DX a H H1) (hD : H D = none) (Da : D ≠ a) : DX a H (upd H1 D o) := ⟨fun b u h => by
  have nb : b ≠ D := fun e => by
    have q := wo_in a H b u h
    rw [e, hD] at q
    cases q
  have q := x.ex b u h
  unfold wo at q ⊢
  rw [upd_ne nb]
  exact q, let ⟨l, s, n, d, z⟩ := x.at_; ⟨l, s, n, d, (upd_ne (Ne.symm Da)).trans z⟩⟩
theorem yes' {σ : L2.St} {H : Hp} {Q : Bool → Hp → Prop} (q : Q true H) : tYes σ H Q := q
theorem roll_dx {a : Addr} {t : Int} {H : Hp} {Q : VK} {E : XK} (hd : HasDice H a) (h0 : 0 < t) (h1 : t ≤ 1000000) (q : ∀ r H', 0 ≤ r → r < t → DX a H H' → Q (.int r) H') : spRoll [.ref a, .int t] H Q E := by
  obtain ⟨l, s, n, d, h⟩ := hd
  exact ⟨a, l, s, n, t, rfl, h, d, h0, h1, fun r l' s' n' r0 r1 d' => q r _ r0 r1 (DX.throw d')⟩
theorem pick_dx {K : PySem.W.Frag} {a b : Addr} {xs : List V} {H : Hp} {Q : VK} {E : XK} (hd : HasDice H a) (hb : wo a H b = some (.lst xs)) (h0 : 0 < xs.length) (h1 : xs.length ≤ 1000) (q : ∀ x H', x ∈ xs → DX a H H' → Q x H') : spPick K [.ref a, .ref b] H Q E := by
  obtain ⟨l, s, n, d, h⟩ := hd
  have nb : a ≠ b := fun e => by
    rw [← e] at hb
    unfold wo at hb
    rw [if_pos rfl] at hb
    cases hb
  exact ⟨a, b, l, s, n, xs, rfl, nb, h, d, wo_in a H b _ hb, h0, by omega, fun x l' s' n' hx d' => q x _ hx (DX.throw d')⟩
abbrev NM : List Str := ["_law_dice_here", "_law_items", "_law_left", "_law_found", "_law_turn"]
abbrev sMixed : Stmt := top 46
def spMixed : Sp := fun vs H Q _ => ∃ (a b : Addr) (xs : List V), vs = [.ref a, .ref b] ∧ HasDice H a ∧ wo a H b = some (.lst xs) ∧ xs.length ≤ 1000 ∧ ∀ p ys H', ys.Perm xs → DX a H H' → wo a H' p = some (.lst ys) → H p = none → Q (.ref p) H'
section
variable {P : Program} {w : World} {K : PySem.W.Frag} {mg : Str → Option Value} {base : Heap}
theorem fresh_ne {a p : Addr} {H : Hp} (hd : HasDice H a) (hp : H p = none) : p ≠ a := fun e => by
  obtain ⟨_, _, _, _, q⟩ := hd
  rw [e, q] at hp
  cases hp
theorem scMixed : FnScope NM ["_law_dice_here", "_law_items"] (defScope sMixed) := ⟨rfl, rfl, rfl, by decide +kernel, rfl, by decide +kernel, by decide +kernel⟩
theorem erase_perm' {α : Type} : ∀ (xs : List α) (k : Nat) (y : α), xs[k]? = some y → (y :: xs.eraseIdx k).Perm xs
  | x :: r, 0, y, h => by
    cases (show some x = some y from h)
    exact List.Perm.refl _
  | x :: r, k + 1, y, h => by
    have ih := erase_perm' r k y h
    exact (List.Perm.swap x y _).trans (ih.cons x)
theorem ok_mixed {f fr : Addr} {fd fdr : FuncData} (F : Fun K "_law_mixed" "_law_mixed" sMixed f fd) (FR : Fun K "_law_roll" "_law_roll" sRoll fr fdr) (gR : mg "_law_roll" = some (.ref fr)) (GR : FnOk P w K mg base CX0 1 fr fdr ["_law_dice_here", "_law_total"] spRoll) (T : BltL mg) : FnOk P w K mg base CX0 2 f fd ["_law_dice_here", "_law_items"] spMixed := by
  have nd := scMixed.nd
  have bR := rollBinds FR
  refine F.ok scMixed (fun vs H Q E h => ?_) (fun cdv A outer s H vs Q E hr h => ⟨_, (pss_cons (ps_par (i := 2) (j := 3) rfl nd rfl rfl (by decide) rfl rfl (pa_cons (pe_callTy call_list_of (by rfl) T.list (by decide +kernel) (pa_cons (pv 1) pa_nil)) (pa_cons (pe_lstN pa_nil) pa_nil)) rfl)
    (pss_cons (ps_for PassesOwn.never rfl (pi_range1 rfl T.range (pa_cons (pe_callB call_len_seq (by rfl) T.len (by decide +kernel) (pa_cons (pv 1) pa_nil)) pa_nil)) (pg_name (i := 4) nd rfl (Or.inl rfl)) (pss_one (ps_expr (pe_bm PySem.F.plainAttrs_list PySem.F.slot_list_append PySem.F.type_list_append mt_append (pv 3) (pa_cons (pe_bm PySem.F.plainAttrs_list PySem.F.slot_list_pop PySem.F.type_list_pop mt_popAt (pv 2) (pa_cons (pe_call GR (hr.mono (by decide)) (by rfl) gR FR.kp bR .nil pass0 (pa_cons (pv 0) (pa_cons (pe_callB call_len_seq (by rfl) T.len (by decide +kernel) (pa_cons (pv 2) pa_nil)) pa_nil))) pa_nil)) pa_nil)))))
    (pss_one (ps_ret (pv 3))))), ?_⟩)
  · obtain ⟨a, b, xs, rfl, _⟩ := h
    rfl
  · obtain ⟨a, b, xs, rfl, hd, hb, hz, k⟩ := h
    have hbH := wo_in a H b _ hb
    walk_at "rd"
    refine Rd.par2 ?_
    walk_at "rd"
    refine ⟨b, xs, rfl, Or.inl (SqL.of hbH), fun L hL => ?_⟩
    walk_at "rd"
    refine ⟨sz_of (by simp), fun G hG hGm => ?_⟩
    refine ⟨_, _, rfl, ?_⟩
    have La := fresh_ne hd hL
    have GL : G ≠ L := fun e => by
      rw [e, upd_same] at hG
      cases hG
    have hG0 : H G = none := by
      rw [upd_ne GL] at hG
      exact hG
    have Ga := fresh_ne hd hG0
    have x0 : DX a H (upd (upd H L (.lst xs)) G (.lst [])) := DX.of ((Ex.new hL).trans (Ex.new hG)) hd
    have gL : (upd (upd H L (.lst xs)) G (.lst [])) L = some (.lst xs) := (upd_ne (Ne.symm GL)).trans upd_same
    have gG : (upd (upd H L (.lst xs)) G (.lst [])) G = some (.lst []) := upd_same
    have gb : (upd (upd H L (.lst xs)) G (.lst [])) b = some (.lst xs) := wo_in a _ b _ (x0.ex _ _ hb)
    generalize upd (upd H L (.lst xs)) G (.lst []) = H2 at x0 gL gG gb ⊢
    walk_at "rd"
    refine Rd.for' (Rd.irng' ?_)
    walk_at "rd"
    refine ⟨b, xs, rfl, Or.inl (SqL.of gb), ?_⟩
    walk_at "rd"
    refine ⟨_, rfl, by omega, by omega, ?_⟩
    refine for_it walk_range (fun i σ H' => ∃ (t : Option V) (ls ys : List V), σ = [some (.ref a), some (.ref b), some (.ref L), some (.ref G), t] ∧ DX a H H' ∧ H' L = some (.lst ls) ∧ H' G = some (.lst ys) ∧ (ys ++ ls).Perm xs ∧ ys.length = i) ⟨none, xs, [], rfl, x0, gL, gG, List.Perm.refl _, rfl⟩ (fun _ _ _ _ _ => trivial) (fun i z σ H3 H4 hi hP hY => ?_) (fun σ H3 hP => ?_)
    · obtain ⟨t, ls, ys, rfl, x3, q1, q2, q3, q4⟩ := hP
      obtain ⟨rfl, rfl⟩ := hY
      have pl := q3.length_eq
      rw [List.length_append] at pl
      have hi' : i < xs.length := by
        have e : Int.toNat ((xs.length : Nat) : Int) = xs.length := rfl
        rw [e] at hi
        exact hi
      walk_at "rd"
      refine ⟨_, rfl, Or.inl ⟨rfl, _, SqL.of q2⟩, ?_⟩
      walk_at "rd"
      refine ⟨_, rfl, Or.inl ⟨rfl, _, SqL.of q1⟩, ?_⟩
      walk_at "rd"
      refine ⟨L, ls, rfl, Or.inl (SqL.of q1), ?_⟩
      walk_at "rd"
      refine roll_dx x3.at_ (by omega) (by omega) fun r H5 r0 r1 x5 => ?_
      obtain ⟨j, rfl⟩ := Int.eq_ofNat_of_zero_le r0
      have jl : j < ls.length := by omega
      have q1' : H5 L = some (.lst ls) := wo_in a _ _ _ (x5.ex _ _ (wo_of q1 La))
      have q2' : H5 G = some (.lst ys) := wo_in a _ _ _ (x5.ex _ _ (wo_of q2 Ga))
      walk_at "rd"
      refine ⟨L, ls, (j : Int), j, ls[j], rfl, rfl, q1', by omega, by omega, ?_, List.getElem?_eq_getElem jl, ?_⟩
      · unfold seqIndex?
        have e0 : ¬ ((j : Nat) : Int) < 0 := by omega
        simp [e0, jl]
      · walk_at "rd"
        refine ⟨G, ys, _, rfl, rfl, (upd_ne GL).trans q2', sz_lt (by omega), ?_⟩
        refine ⟨_, ls.eraseIdx j, ys ++ [ls[j]], rfl, ((x3.trans x5).mut hL La).mut hG0 Ga, (upd_ne (Ne.symm GL)).trans upd_same, upd_same, ?_, ?_⟩
        · rw [List.append_assoc]
          exact (List.Perm.append_left ys (erase_perm' ls j _ (List.getElem?_eq_getElem jl))).trans q3
        · rw [List.length_append, q4]
          rfl
    · obtain ⟨t, ls, ys, rfl, x3, q1, q2, q3, q4⟩ := hP
      walk_at "rd"
      have e : Int.toNat ((xs.length : Nat) : Int) = xs.length := rfl
      rw [e] at q4
      have pl := q3.length_eq
      rw [List.length_append] at pl
      have l0 : ls = [] := List.length_eq_zero_iff.mp (by omega)
      rw [l0, List.append_nil] at q3
      exact k G ys _ q3 x3 (wo_of q2 Ga) hG0
end
end OwW

/-! Comprehensions with any target. -/
namespace Rd
open PySem PySem.Spec PyProof.Rows L2 Evl
section
theorem lc_mapG {J : It} {n : Nat} {G : Hp → Prop} {Y : Nat → Hp → V → Hp → Prop} (wk : Walk J n G Y) (f : Nat → V) {g : TG} {te : TE} {js : List Nat} {σ : L2.St} {H1 : Hp} {D : Addr} {Qd : Hp → Prop} (hD : H1 D = none) (hn : n ≤ 100000) (hG : ∀ H', Ex H1 H' → G H')
    (hs : ∀ i x H H' (R : V → Hp → Prop), i < n → Ex H1 H → Y i H x H' → (∀ H4, Ex H H4 → R (f i) H4) → g x (wipe σ js) H' fun σ2 H2 => wipe σ2 js = wipe σ js ∧ te σ2 H2 R) (hd : ∀ H, Ex H1 H → H D = some (.lst ((List.range n).map f)) → Qd H) :
    ∃ W : Nat → Nat → Hp → Prop, (∃ m, W 0 m (upd H1 D (.lst []))) ∧ ∀ i m H, W i m H →
      (J.stop i H ∧ Qd H) ∨ (J.go i H ∧ ∃ Nx : Hp → Prop, (∀ H', Nx H' → ∃ m', m' < m ∧ W (i + 1) m' H') ∧ ∀ x H', J.yld i H x H' → g x (wipe σ js) H' fun σ2 H2 => wipe σ2 js = wipe σ js ∧ tYes σ2 H2 fun b H3 =>
        if b = true then te σ2 H3 fun y H4 => ∃ acc, H4 D = some (.lst acc) ∧ acc.length < sizeLine ∧ Nx (upd H4 D (.lst (acc ++ [y]))) else Nx H3) := by
  refine lc_it wk (fun i H => Ex H1 H ∧ H D = some (.lst ((List.range i).map f))) ⟨Ex.new hD, upd_same⟩ (fun i H hi p => hG H p.1) (fun i x H H' hi p y => ?_) (fun H p => hd H p.1 p.2)
  refine hs i x H H' _ hi p.1 y fun H4 e4 => ⟨_, e4 _ _ p.2, ?_, (p.1.trans e4).mut hD, ?_⟩
  · simp only [List.length_map, List.length_range]
    exact sz_lt (by omega)
  · rw [List.range_succ, List.map_append]
    exact upd_same
theorem lc_keepG {J : It} {n : Nat} {G : Hp → Prop} {Y : Nat → Hp → V → Hp → Prop} (wk : Walk J n G Y) (p : Nat → Bool) (f : Nat → V) {g : TG} {tt : TT} {te : TE} {js : List Nat} {σ : L2.St} {H1 : Hp} {D : Addr} {Qd : Hp → Prop} (hD : H1 D = none) (hn : n ≤ 100000) (hG : ∀ H', Ex H1 H' → G H')
    (hs : ∀ i x H H' (B : L2.St → Bool → Hp → Prop), i < n → Ex H1 H → Y i H x H' → (∀ σ2 H4, Ex H H4 → (p i = true → ∀ R : V → Hp → Prop, (∀ H5, Ex H H5 → R (f i) H5) → te σ2 H4 R) → B σ2 (p i) H4) → g x (wipe σ js) H' fun σ2 H2 => wipe σ2 js = wipe σ js ∧ tt σ2 H2 (B σ2)) (hd : ∀ H, Ex H1 H → H D = some (.lst (((List.range n).filter p).map f)) → Qd H) :
    ∃ W : Nat → Nat → Hp → Prop, (∃ m, W 0 m (upd H1 D (.lst []))) ∧ ∀ i m H, W i m H →
      (J.stop i H ∧ Qd H) ∨ (J.go i H ∧ ∃ Nx : Hp → Prop, (∀ H', Nx H' → ∃ m', m' < m ∧ W (i + 1) m' H') ∧ ∀ x H', J.yld i H x H' → g x (wipe σ js) H' fun σ2 H2 => wipe σ2 js = wipe σ js ∧ tt σ2 H2 fun b H3 =>
        if b = true then te σ2 H3 fun y H4 => ∃ acc, H4 D = some (.lst acc) ∧ acc.length < sizeLine ∧ Nx (upd H4 D (.lst (acc ++ [y]))) else Nx H3) := by
  refine lc_it wk (fun i H => Ex H1 H ∧ H D = some (.lst (((List.range i).filter p).map f))) ⟨Ex.new hD, upd_same⟩ (fun i H hi pv => hG H pv.1) (fun i x H H' hi pv y => ?_) (fun H pv => hd H pv.1 pv.2)
  have step : (List.range (i + 1)).filter p = (List.range i).filter p ++ (if p i = true then [i] else []) := by
    rw [List.range_succ, List.filter_append]
    by_cases c : p i = true <;> simp [c]
  refine hs i x H H' (fun σ2 b H3 => if b = true then te σ2 H3 fun y H4 => ∃ acc, H4 D = some (.lst acc) ∧ acc.length < sizeLine ∧ (Ex H1 (upd H4 D (.lst (acc ++ [y]))) ∧ (upd H4 D (.lst (acc ++ [y]))) D = some (.lst (((List.range (i + 1)).filter p).map f))) else (Ex H1 H3 ∧ H3 D = some (.lst (((List.range (i + 1)).filter p).map f)))) hi pv.1 y fun σ2 H3 e3 he => ?_
  by_cases c : p i = true
  · rw [if_pos c]
    rw [if_pos c] at step
    refine he c _ fun H4 e4 => ⟨_, e4 _ _ pv.2, ?_, (pv.1.trans e4).mut hD, ?_⟩
    · have z : ((List.range i).filter p).length ≤ i := Nat.le_trans (List.length_filter_le _ _) (Nat.le_of_eq List.length_range)
      rw [List.length_map]
      exact sz_lt (by omega)
    · rw [step, List.map_append]
      exact upd_same
  · rw [if_neg c]
    rw [if_neg c, List.append_nil] at step
    rw [step]
    exact ⟨pv.1.trans e3, e3 _ _ pv.2⟩
end
end Rd


namespace OwW
open PySem PyProof.Rows L2 L2H OwX Rd Evl
abbrev sIsTie : Stmt := top 19
abbrev sAsc : Stmt := top 21
/-- ties: an address and two texts each -/
abbrev TL := List (Addr × Str × Str)
def TA (H : Hp) (ys : TL) : Prop := ∀ p ∈ ys, H p.1 = some (.tup [V.str p.2.1, V.str p.2.2])
theorem TA.ex {H H' : Hp} {ys : TL} (t : TA H ys) (e : Ex H H') : TA H' ys := fun p hp => e _ _ (t p hp)
abbrev rf (ys : TL) : List V := ys.map fun p => V.ref p.1
structure BltB (mg : Str → Option Value) : Prop where
  len : mg "len" = none
  all : mg "all" = none
  zip : mg "zip" = none
  tuple : mg "tuple" = none
  sorted : mg "sorted" = none
  isinst : mg "isinstance" = none
/-- each one ahead of the next -/
def ascB {α : Type} (r : α → α → Bool) : List α → Bool
  | a :: b :: l => r a b && ascB r (b :: l)
  | _ => true
theorem ascB_all {α : Type} (r : α → α → Bool) (d : α) : ∀ l : List α, ascB r l = ((List.range (l.length - 1)).map fun i => r (l.getD i d) (l.getD (i + 1) d)).all id
  | [] => rfl
  | [a] => rfl
  | a :: b :: l => by
    have ih := ascB_all r d (b :: l)
    show (r a b && ascB r (b :: l)) = _
    rw [ih]
    show _ = ((List.range (l.length + 1)).map _).all id
    rw [List.range_succ_eq_map, List.map_cons, List.all_cons, List.map_map]
    rfl
def spIsTie : Sp := fun vs H Q _ => ∃ (p : Addr) (a b : Str), vs = [.ref p] ∧ H p = some (.tup [V.str a, V.str b]) ∧ nameB a = true ∧ nameB b = true ∧ ∀ H', Ex H H' → Q (.bl (OwL2.lt a b)) H'
def spAsc : Sp := fun vs H Q _ => ∃ p : Addr, vs = [.ref p] ∧ ((∃ ks : List Str, H p = some (.tup (ks.map V.str)) ∧ ks.length ≤ 1000 ∧ ∀ H', Ex H H' → Q (.bl (ascB OwL2.lt ks)) H') ∨
  ∃ ys : TL, H p = some (.tup (rf ys)) ∧ TA H ys ∧ ys.length ≤ 1000 ∧ ∀ H', Ex H H' → Q (.bl (ascB OwL2.ltP (ys.map (·.2)))) H')
theorem name_short {n : Str} (h : nameB n = true) : n.length ≤ 1000 := by
  unfold nameB at h
  simp only [Bool.and_eq_true, decide_eq_true_eq] at h
  omega
section
variable {P : Program} {w : World} {K : PySem.W.Frag} {mg : Str → Option Value} {base : Heap}
theorem scIsTie : FnScope ["value"] ["value"] (defScope sIsTie) := ⟨rfl, rfl, rfl, by decide +kernel, rfl, by decide +kernel, by decide +kernel⟩
theorem ok_isTie {f g : Addr} {fd gd : FuncData} (F : Fun K "is_tie" "is_tie" sIsTie f fd) (FN : Fun K "are_names" "are_names" sNames g gd) (gN : mg "are_names" = some (.ref g)) (GN : FnOk P w K mg base CX0 2 g gd ["value"] (spB namesD)) (T : BltB mg) : FnOk P w K mg base CX0 3 f fd ["value"] spIsTie := by
  have nd := scIsTie.nd
  have bN : Binds K gd ["value"] [] := FN.binds fun _ _ _ _ _ _ us hl => match us, hl with | [_], _ => rfl
  refine F.ok scIsTie (fun vs H Q E h => ?_) (fun cdv A outer s H vs Q E hr h => ⟨_, (pss_one (ps_ret (pe_and (pe_call GN (hr.mono (by decide)) (by rfl) gN FN.kp bN .nil pass0 (pa_cons (pv 0) pa_nil)) (pe_and (pe_cmpR op_eq (pe_callB call_len_seq (by rfl) T.len (by decide +kernel) (pa_cons (pv 0) pa_nil)) pe_int (nomark _)) (pe_one (pe_cmpR op_lt_str (pe_ix ix_tup (pv 0) pe_int (fun _ _ => rfl)) (pe_ix ix_tup (pv 0) pe_int (fun _ _ => rfl)) (nomark _))))))), ?_⟩)
  · obtain ⟨p, a, b, rfl, _⟩ := h
    rfl
  · obtain ⟨p, a, b, rfl, hp, na, nb, k⟩ := h
    walk_at "rd"
    refine Rd.andv ?_
    walk_at "rd"
    have nm : namesD (.tuple [.str a, .str b]) = true := by
      show (nameB a && (nameB b && true)) = true
      rw [na, nb]
      rfl
    refine ⟨_, .tuple [.str a, .str b], rfl, .tup hp (by simp) (.cons (.str a (name_short na)) (.cons (.str b (name_short nb)) .nil)), fun H1 e1 => ⟨_, rfl, ?_⟩⟩
    rw [nm]
    refine Rd.iteT rfl (Rd.andv ?_)
    walk_at "rd"
    have hp1 := e1 _ _ hp
    refine ⟨p, _, rfl, Or.inr (SqT.of hp1), ?_⟩
    walk_at "rd"
    refine Rd.eq rfl ⟨_, rfl, Rd.iteT rfl ?_⟩
    walk_at "rd"
    refine Rd.ixt (SqT.of hp1) rfl ?_
    walk_at "rd"
    refine Rd.ixt (SqT.of hp1) rfl ?_
    exact ⟨a, b, rfl, rfl, k H1 e1⟩
theorem scAsc : FnScope ["row", "one", "other"] ["row"] (defScope sAsc) := ⟨rfl, rfl, rfl, by decide +kernel, rfl, by decide +kernel, by decide +kernel⟩
theorem cut1 (xs : List V) : cutV xs (some 1) none = xs.drop 1 := by
  cases xs with
  | nil => rfl
  | cons x r =>
    unfold cutV
    have e1 : HT.sIx (x :: r).length 0 (some 1) = 1 := by simp [HT.sIx]
    have e2 : HT.sIx (x :: r).length (x :: r).length none = r.length + 1 := rfl
    rw [e1, e2]
    show (List.drop 0 r).take _ = r
    rw [List.drop_zero]
    exact List.take_of_length_le (by omega)
theorem walk_zipT {K : PySem.W.Frag} {a b : Addr} {xs ys : List V} {n : Nat} (hn : n = min xs.length ys.length) : Walk (RZ.ItzT K a b) n (fun H => SqT K H a xs ∧ SqT K H b ys) (YPair (fun i => xs[i]?) (fun i => ys[i]?)) :=
  ⟨fun i _ hi q => ⟨xs, ys, xs[i]'(by omega), ys[i]'(by omega), q.1, q.2, by simp, by simp⟩, fun _ q => ⟨xs, ys, q.1, q.2, by omega⟩, fun _ _ _ _ _ q y => by
    obtain ⟨T, x, z, e, f, g, hx, hz⟩ := y
    exact ⟨T, x, z, e, f, g, hx xs q.1, hz ys q.2⟩⟩
theorem ok_asc {f : Addr} {fd : FuncData} (F : Fun K "ascends" "ascends" sAsc f fd) (T : BltB mg) : FnOk P w K mg base CX0 1 f fd ["row"] spAsc := by
  have nd := scAsc.nd
  refine F.ok scAsc (fun vs H Q E h => ?_) (fun cdv A outer s H vs Q E hr h => ⟨_, (pss_one (ps_ret (pe_callB (cr_all rfl) (by rfl) T.all (by decide +kernel) (pa_cons (pe_lc (own := [("one", 1), ("other", 2)]) (g := gTup K 2 (gCons (gName 1) (gCons (gName 2) gNil))) (te := tOp (OwL2.rLtD K) (tVar 1) (tVar 2)) (tt := tYes) rfl nd (RZ.pi_zipA (by rfl) T.zip (pa_cons (pv 0) (pa_cons (pe_slice sl_tupA (pv 0) (po_some pe_int) po_none) pa_nil))) (blkOk_by (own := [("one", 1), ("other", 2)]) (N := ["row", "one", "other"]) (sc := defScope sAsc) (by decide +kernel)) (fun _ _ _ _ _ => (pg_tup rfl (pgs_cons (pg_name (i := 1) nd rfl (Or.inl rfl)) (pgs_cons (pg_name (i := 2) nd rfl (Or.inl rfl)) pgs_nil)))) (fun _ _ _ _ _ => pts_nil) (fun _ _ _ _ _ => (pe_cmpR (OwL2.op_ltD hr.units) (pv 1) (pv 2) (nomark _)))) pa_nil)))), ?_⟩)
  · obtain ⟨p, rfl, _⟩ := h
    rfl
  · obtain ⟨p, rfl, h⟩ := h
    have key : ∀ (xs : List V) (r : Nat → Bool), H p = some (.tup xs) → xs.length ≤ 1000 → (∀ i x y H' (R : V → Hp → Prop), i + 1 < xs.length → xs[i]? = some x → xs[i + 1]? = some y → Ex H H' → R (.bl (r i)) H' → OwL2.rLtD K x y H' R) → (∀ H', Ex H H' → Q (.bl (((List.range (xs.length - 1)).map r).all id)) H') →
        (tLc (RZ.iZipA K (tCons (tVar 0) (tCons (tSl (rSlA K) (tVar 0) (tPart (tC (.int 1))) tNoPart) tNil))) (gTup K 2 (gCons (gName 1) (gCons (gName 2) gNil))) tYes (tOp (OwL2.rLtD K) (tVar 1) (tVar 2)) [1, 2] (L2.start ["row", "one", "other"] [.ref p]) H fun x H1 => tNil (L2.start ["row", "one", "other"] [.ref p]) H1 fun xs H2 => rAll K (x :: xs) H2 Q) := by
      intro xs r hp hl hr' hq
      have zip : ∀ (q : Addr) (H1 : Hp), Ex H H1 → H1 q = some (.tup (xs.drop 1)) → ∀ D, H1 D = none → ∃ W : Nat → Nat → Hp → Prop, (∃ m, W 0 m (upd H1 D (.lst []))) ∧ ∀ i m H, W i m H → ((RZ.ItzT K p q).stop i H ∧ (tNil (L2.start ["row", "one", "other"] [.ref p]) H fun xs H2 => rAll K (.ref D :: xs) H2 Q)) ∨ ((RZ.ItzT K p q).go i H ∧ ∃ Nx : Hp → Prop, (∀ H', Nx H' → ∃ m', m' < m ∧ W (i + 1) m' H') ∧ ∀ x H', (RZ.ItzT K p q).yld i H x H' → gTup K 2 (gCons (gName 1) (gCons (gName 2) gNil)) x (wipe (L2.start ["row", "one", "other"] [.ref p]) [1, 2]) H' fun σ2 H2 => wipe σ2 [1, 2] = wipe (L2.start ["row", "one", "other"] [.ref p]) [1, 2] ∧ tYes σ2 H2 fun b H3 =>
          if b = true then tOp (OwL2.rLtD K) (tVar 1) (tVar 2) σ2 H3 fun y H4 => ∃ acc, H4 D = some (.lst acc) ∧ acc.length < sizeLine ∧ Nx (upd H4 D (.lst (acc ++ [y]))) else Nx H3) := by
        intro q H1 e1 hq1 D hD
        refine Rd.lc_mapG (walk_zipT (xs := xs) (ys := xs.drop 1) (n := xs.length - 1) (by rw [List.length_drop]; omega)) (fun i => V.bl (r i)) hD (by omega) (fun H' e => ⟨SqT.of (e _ _ (e1 _ _ hp)), SqT.of (e _ _ hq1)⟩) (fun i y Ha Hb R hi ea y1 hR => ?_) (fun H2 e2 h2 => ?_)
        · obtain ⟨t, a, b, rfl, ht, rfl, ha, hb⟩ := y1
          have hb' : xs[i + 1]? = some b := by
            have z : (List.drop 1 xs)[i]? = some b := hb
            rw [List.getElem?_drop, Nat.add_comm] at z
            exact z
          have et : Ex Ha (upd Ha t (.tup [a, b])) := Ex.new ht
          have hh : (upd Ha t (.tup [a, b])) t = some (.tup [a, b]) := upd_same
          generalize upd Ha t (.tup [a, b]) = Hb at et hh
          refine ⟨t, [a, b], rfl, SqT.of hh, rfl, a, [b], rfl, ?_⟩
          walk_at "rd"
          refine ⟨b, [], rfl, ?_⟩
          walk_at "rd"
          refine ⟨rfl, ?_⟩
          show _ ∧ _
          refine ⟨rfl, ?_⟩
          walk_at "rd"
          exact hr' i a b Hb R (by omega) ha hb' ((e1.trans ea).trans et) (hR Hb et)
        · walk_at "rd"
          rw [bls] at h2
          refine ⟨_, _, rfl, SqL.of h2, ?_⟩
          exact hq H2 (e1.trans e2)
      unfold tLc RZ.iZipA
      walk_at "rd"
      refine ⟨_, rfl, ?_⟩
      walk_at "rd"
      refine ⟨_, rfl, ?_⟩
      walk_at "rd"
      refine ⟨p, xs, rfl, SqT.of hp, fun hw => ?_, fun hw q hq0 => ?_⟩
      · have e0 : xs = [] := by
          have z := hw.1
          unfold HT.sIx at z
          simp at z
          exact z
        refine ⟨p, p, xs, xs.drop 1, rfl, Or.inr ⟨SqT.of hp, SqT.of (by rw [e0] at hp ⊢; exact hp), ?_⟩⟩
        exact zip p H (Ex.refl H) (by rw [e0] at hp ⊢; exact hp)
      · refine ⟨p, q, xs, xs.drop 1, rfl, Or.inr ⟨SqT.of (Ex.new hq0 _ _ hp), SqT.of (by rw [← cut1]; exact upd_same), ?_⟩⟩
        exact zip q _ (Ex.new hq0) (by rw [← cut1]; exact upd_same)
    walk_at "rd"
    rcases h with ⟨ks, hp, hl, k⟩ | ⟨ys, hp, ta, hl, k⟩
    · refine key (ks.map V.str) (fun i => OwL2.lt (ks.getD i "") (ks.getD (i + 1) "")) hp (by rw [List.length_map]; exact hl) (fun i x y H' R hi hx hy e hR => ?_) (fun H' e => ?_)
      · rw [List.getElem?_map] at hx hy
        cases ha : ks[i]? with
        | none => rw [ha] at hx; exact nomatch hx
        | some a =>
          cases hb : ks[i + 1]? with
          | none => rw [hb] at hy; exact nomatch hy
          | some b =>
            rw [ha] at hx
            rw [hb] at hy
            cases hx
            cases hy
            have ea : ks.getD i "" = a := by rw [List.getD_eq_getElem?_getD, ha]; rfl
            have eb : ks.getD (i + 1) "" = b := by rw [List.getD_eq_getElem?_getD, hb]; rfl
            rw [ea, eb] at hR
            exact ⟨.str a, .str b, .str a, .str b, rfl, (fun z => nomatch z), by simp [PyData.depth], by rw [PySem.W.dataLt_str]; exact hR⟩
      · rw [List.length_map, ← ascB_all OwL2.lt "" ks]
        exact k H' e
    · refine key (rf ys) (fun i => OwL2.ltP ((ys.map (·.2)).getD i (("" : Str), ("" : Str))) ((ys.map (·.2)).getD (i + 1) (("" : Str), ("" : Str)))) hp (by rw [List.length_map]; exact hl) (fun i x y H' R hi hx hy e hR => ?_) (fun H' e => ?_)
      · rw [List.getElem?_map] at hx hy
        cases ha : ys[i]? with
        | none => rw [ha] at hx; exact nomatch hx
        | some a =>
          cases hb : ys[i + 1]? with
          | none => rw [hb] at hy; exact nomatch hy
          | some b =>
            rw [ha] at hx
            rw [hb] at hy
            cases hx
            cases hy
            have ea : (ys.map (·.2)).getD i (("" : Str), ("" : Str)) = a.2 := by rw [List.getD_eq_getElem?_getD, List.getElem?_map, ha]; rfl
            have eb : (ys.map (·.2)).getD (i + 1) (("" : Str), ("" : Str)) = b.2 := by rw [List.getD_eq_getElem?_getD, List.getElem?_map, hb]; rfl
            rw [ea, eb] at hR
            have ha' := ta.ex e a (List.mem_of_getElem? ha)
            have hb' := ta.ex e b (List.mem_of_getElem? hb)
            exact ⟨.tuple [.str a.2.1, .str a.2.2], .tuple [.str b.2.1, .str b.2.2], .tup (SqT.of ha') (.cons (.str _) (.cons (.str _) .nil)), .tup (SqT.of hb') (.cons (.str _) (.cons (.str _) .nil)), rfl, (fun z => nomatch z), by simp [PyData.depth, PyData.depthAll], by rw [OwL2.dataLt_pairS]; exact hR⟩
      · have z := k H' e
        rw [ascB_all OwL2.ltP (("" : Str), ("" : Str)) (ys.map (·.2))] at z
        rw [List.length_map] at z ⊢
        exact z
end
end OwW


namespace OwW
open PySem PyProof.Rows L2 L2H OwX Rd Evl
abbrev sEnds : Stmt := top 23
abbrev NEn : List Str := ["ties", "place", "a", "b"]
/-- the tie has the place -/
def hits (x : Str) (p : Str × Str) : Bool := decide (p.1 = x) || decide (p.2 = x)
def far (x : Str) (p : Str × Str) : Str := if p.1 = x then p.2 else p.1
def endsL (ys : List (Str × Str)) (x : Str) : List Str := (ys.filter (hits x)).map (far x)
def spEnds : Sp := fun vs H Q _ => ∃ (p : Addr) (ys : TL) (x : Str), vs = [.ref p, .str x] ∧ H p = some (.tup (rf ys)) ∧ TA H ys ∧ ys.length < 64 ∧ ∀ es : List Str, es.Perm (endsL (ys.map (·.2)) x) → sortedS es = true → ∀ q H', Ex H H' → H' q = some (.tup (es.map V.str)) → Q (.ref q) H'
theorem range_filter {α : Type} (l : List α) (d : α) (g : α → Bool) : ((List.range l.length).filter fun i => g (l.getD i d)).map (fun i => l.getD i d) = l.filter g := by
  have e : (List.range l.length).map (fun i => l.getD i d) = l := by
    have z := range_get (fun a : α => a) d l
    rw [List.map_id'] at z
    exact z
  conv => rhs; rw [← e, List.filter_map]
  rfl
section
variable {P : Program} {w : World} {K : PySem.W.Frag} {mg : Str → Option Value} {base : Heap}
theorem scEnds : FnScope NEn ["ties", "place"] (defScope sEnds) := ⟨rfl, rfl, rfl, by decide +kernel, rfl, by decide +kernel, by decide +kernel⟩
theorem ok_ends {f : Addr} {fd : FuncData} (F : Fun K "_ends_off" "_ends_off" sEnds f fd) (T : BltB mg) : FnOk P w K mg base CX0 1 f fd ["ties", "place"] spEnds := by
  have nd := scEnds.nd
  refine F.ok scEnds (fun vs H Q E h => ?_) (fun cdv A outer s H vs Q E hr h => ⟨_, (pss_one (ps_ret (pe_callTy call_tuple_of (by rfl) T.tuple (by decide +kernel) (pa_cons (pe_callB cr_sortedS (by rfl) T.sorted (by decide +kernel) (pa_cons (pe_lc (own := [("a", 2), ("b", 3)]) (g := gTup K 2 (gCons (gName 2) (gCons (gName 3) gNil))) (tt := tTest (tOp (rIn K false) (tVar 1) (tTup (tCons (tVar 2) (tCons (tVar 3) tNil))))) rfl nd (pi_tup (pv 0)) (blkOk_by (own := [("a", 2), ("b", 3)]) (N := NEn) (sc := defScope sEnds) (by decide +kernel)) (fun _ _ _ _ _ => (pg_tup rfl (pgs_cons (pg_name (i := 2) nd rfl (Or.inl rfl)) (pgs_cons (pg_name (i := 3) nd rfl (Or.inl rfl)) pgs_nil)))) (fun _ _ _ _ _ => (pts_one (pt_cmpR op_in_seq (pv 1) (pe_tup (pa_cons (pv 2) (pa_cons (pv 3) pa_nil))) (by with_unfolding_all rfl)))) (fun _ _ _ _ _ => (pe_ifExp (pt_cmpR op_eq (pv 2) (pv 1) (nomark _)) (pv 3) (pv 2)))) pa_nil)) pa_nil)))), ?_⟩)
  · obtain ⟨p, ys, x, rfl, _⟩ := h
    rfl
  · obtain ⟨p, ys, x, rfl, hp, ta, hl, k⟩ := h
    walk_at "rd"
    refine Rd.lcm' ?_
    refine ⟨_, rfl, p, rfl, ⟨rf ys, SqT.of hp⟩, fun D hD => ?_⟩
    have lrf : (rf ys).length = ys.length := by rw [List.length_map]
    refine Rd.lc_keepG (walk_tup (xs := rf ys)) (fun i => hits x ((ys.map (·.2)).getD i (("" : Str), ("" : Str)))) (fun i => V.str (far x ((ys.map (·.2)).getD i (("" : Str), ("" : Str))))) hD (by omega) (fun H' e => ex_t e (SqT.of hp)) (fun i y Ha Hb B hi ea y1 hB => ?_) (fun H2 e2 h2 => ?_)
    · obtain ⟨rfl, y2⟩ := y1
      rw [List.getElem?_map] at y2
      cases ht : ys[i]? with
      | none => rw [ht] at y2; exact nomatch y2
      | some t =>
        rw [ht] at y2
        cases y2
        have et : (ys.map (·.2)).getD i (("" : Str), ("" : Str)) = t.2 := by rw [List.getD_eq_getElem?_getD, List.getElem?_map, ht]; rfl
        rw [et] at hB
        have ht' := ta.ex ea t (List.mem_of_getElem? ht)
        obtain ⟨ti, a, b⟩ := t
        refine ⟨ti, [.str a, .str b], rfl, SqT.of ht', rfl, .str a, [.str b], rfl, ?_⟩
        walk_at "rd"
        refine ⟨.str b, [], rfl, ?_⟩
        walk_at "rd"
        refine ⟨rfl, ?_⟩
        show _ ∧ _
        refine ⟨rfl, ?_⟩
        walk_at "rd"
        refine ⟨small64 (n := 2) (by decide), fun t ht2 => ⟨t, [.str a, .str b], rfl, Or.inr (SqT.of upd_same), rfl, rfl, _, rfl, ?_⟩⟩
        have eh : inV (.str x) [.str a, .str b] = hits x (a, b) := by
          show ((a == x) || ((b == x) || false)) = (decide (a = x) || decide (b = x))
          rw [Bool.or_false]
          by_cases c : a = x <;> by_cases d : b = x <;> simp [c, d]
        show B _ (inV (.str x) [.str a, .str b]) _
        rw [eh]
        refine hB _ _ (Ex.new ht2) fun _ R hR => ?_
        walk_at "rd"
        refine Rd.eq rfl ⟨_, rfl, ?_⟩
        refine ite2 (fun c => ?_) (fun c => ?_)
        · have c' : a = x := by
            have z := of_decide_eq_true c
            exact V.str.inj z
          walk_at "rd"
          have z := hR (upd Hb t (.tup [.str a, .str b])) (Ex.new ht2)
          have ef : far x (a, b) = b := if_pos c'
          rw [ef] at z
          exact z
        · have c' : ¬ a = x := fun z => c (decide_eq_true (by rw [z]))
          walk_at "rd"
          have z := hR (upd Hb t (.tup [.str a, .str b])) (Ex.new ht2)
          have ef : far x (a, b) = a := if_neg c'
          rw [ef] at z
          exact z
    · walk_at "rd"
      rw [lrf, ← List.length_map (as := ys) (·.2)] at h2
      have h2' : H2 D = some (.lst ((endsL (ys.map (·.2)) x).map V.str)) := by
        rw [h2]
        unfold endsL
        rw [← range_filter (ys.map (·.2)) (("" : Str), ("" : Str)) (hits x), List.map_map, List.map_map]
        rfl
      have ln : (endsL (ys.map (·.2)) x).length < 64 := by
        have z := List.length_filter_le (hits x) (ys.map (·.2))
        unfold endsL
        rw [List.length_map] at z ⊢
        omega
      refine ⟨D, endsL (ys.map (·.2)) x, rfl, SqL.of h2', ln, fun es q pm so hq => ?_⟩
      walk_at "rd"
      exact ⟨q, es.map V.str, rfl, Or.inl ⟨SqL.of upd_same, fun l hl => k es pm so l _ ((e2.trans (Ex.new hq)).trans (Ex.new hl)) upd_same⟩⟩
end
end OwW


namespace OwW
open PySem PyProof.Rows L2 L2H OwX Rd Evl
abbrev sReach : Stmt := top 22
abbrev NRc : List Str := ["ties", "place", "reached", "todo", "here", "other"]
/-- what is joined to x -/
inductive Rch (ts : List (Str × Str)) (x : Str) : Str → Prop
  | here : Rch ts x x
  | on {a b : Str} : Rch ts x a → b ∈ endsL ts a → Rch ts x b
def spReach : Sp := fun vs H Q _ => ∃ (p : Addr) (ys : TL) (x : Str) (ns : List Str), vs = [.ref p, .str x] ∧ H p = some (.tup (rf ys)) ∧ TA H ys ∧ ys.length < 64 ∧ ns.length < 64 ∧ x ∈ ns ∧ (∀ t ∈ ys, t.2.1 ∈ ns ∧ t.2.2 ∈ ns) ∧
  ∀ ks : List Str, sortedS ks = true → ks.Nodup → (∀ k, k ∈ ks ↔ Rch (ys.map (·.2)) x k) → ∀ q H', Ex H H' → H' q = some (.tup (ks.map V.str)) → Q (.ref q) H'
def kd (R : List Str) : List (Key × V) := R.map fun k => (Sum.inr k, V.bl true)
theorem kd_in (R : List Str) (k : Str) : (valV (kd R) (Sum.inr k)).isSome = decide (k ∈ R) := by
  induction R with
  | nil => rfl
  | cons r R ih =>
    by_cases c : r = k
    · rw [show kd (r :: R) = (Sum.inr r, V.bl true) :: kd R from rfl, valV_pos (by rw [c])]
      simp [c]
    · rw [show kd (r :: R) = (Sum.inr r, V.bl true) :: kd R from rfl, valV_neg (by simpa using c), ih]
      have c' : ¬ k = r := fun z => c z.symm
      simp [c']
theorem kd_put {R : List Str} {k : Str} (h : ¬ k ∈ R) : putK (kd R) (Sum.inr k) (V.bl true) = kd (R ++ [k]) := by
  have e : valV (kd R) (Sum.inr k) = none := by
    have z := kd_in R k
    rw [decide_eq_false h] at z
    exact Option.isSome_eq_false_iff.mp z |> Option.isNone_iff_eq_none.mp
  rw [putK_new _ e]
  unfold kd
  rw [List.map_append]
  rfl
theorem nodup_le : ∀ (R ns : List Str), R.Nodup → (∀ r ∈ R, r ∈ ns) → R.length ≤ ns.length
  | [], _, _, _ => Nat.zero_le _
  | r :: R, ns, nd, h => by
    obtain ⟨n1, n2⟩ := List.nodup_cons.mp nd
    have hr := h r List.mem_cons_self
    have ih := nodup_le R (ns.erase r) n2 fun s hs => (List.mem_erase_of_ne fun e => n1 (by rw [← e]; exact hs)).mpr (h s (List.mem_cons_of_mem _ hs))
    rw [List.length_erase_of_mem hr] at ih
    have z := List.length_pos_of_mem hr
    show R.length + 1 ≤ _
    omega
theorem ends_in {ys : TL} {ns : List Str} (h : ∀ t ∈ ys, t.2.1 ∈ ns ∧ t.2.2 ∈ ns) {a b : Str} (hb : b ∈ endsL (ys.map (·.2)) a) : b ∈ ns := by
  unfold endsL at hb
  obtain ⟨t, ht, rfl⟩ := List.mem_map.mp hb
  obtain ⟨u, hu, rfl⟩ := List.mem_map.mp (List.mem_filter.mp ht).1
  unfold far
  split
  · exact (h u hu).2
  · exact (h u hu).1
/-- reached and still to do -/
structure RI (H0 : Hp) (D1 D2 : Addr) (ts : List (Str × Str)) (x : Str) (ns R T : List Str) (H : Hp) : Prop where
  ex : Ex H0 H
  d1 : H D1 = some (.dK (kd R))
  d2 : H D2 = some (.lst (T.map V.str))
  nd : R.Nodup
  sub : ∀ r ∈ R, r ∈ ns
  rch : ∀ r ∈ R, Rch ts x r
  at_ : x ∈ R
  todo : ∀ t ∈ T, t ∈ R
  tl : T.length ≤ R.length
section
variable {P : Program} {w : World} {K : PySem.W.Frag} {mg : Str → Option Value} {base : Heap}
theorem scReach : FnScope NRc ["ties", "place"] (defScope sReach) := ⟨rfl, rfl, rfl, by decide +kernel, rfl, by decide +kernel, by decide +kernel⟩
theorem ok_reach {f g : Addr} {fd gd : FuncData} (F : Fun K "reached_along" "reached_along" sReach f fd) (FE : Fun K "_ends_off" "_ends_off" sEnds g gd) (gE : mg "_ends_off" = some (.ref g)) (GE : FnOk P w K mg base CX0 1 g gd ["ties", "place"] spEnds) (T : BltB mg) : FnOk P w K mg base CX0 2 f fd ["ties", "place"] spReach := by
  have nd := scReach.nd
  have bE : Binds K gd ["ties", "place"] [] := FE.binds fun _ _ _ _ _ _ us hl => match us, hl with | [_, _], _ => rfl
  refine F.ok scReach (fun vs H Q E h => ?_) (fun cdv A outer s H vs Q E hr h => ⟨_, (pss_cons (ps_set (i := 2) nd rfl (Or.inl rfl) (pe_disp (pps_cons (pv 1) pe_bl pps_nil) (by rfl) (by rfl) (fun z => by cases z) (by decide)))
    (pss_cons (ps_set (i := 3) nd rfl (Or.inl rfl) (pe_lst (pa_cons (pv 1) pa_nil)))
    (pss_cons (ps_while PassesOwn.never (pt_truth (pv 3) (fun _ => rfl)) (pss_cons (ps_set (i := 4) nd rfl (Or.inl rfl) (pe_bm0 PySem.F.plainAttrs_list PySem.F.slot_list_pop PySem.F.type_list_pop mt_pop (pv 3)))
    (pss_one (ps_for PassesOwn.never rfl (pi_tup (pe_call GE (hr.mono (by decide)) (by rfl) gE FE.kp bE .nil pass0 (pa_cons (pv 0) (pa_cons (pv 4) pa_nil)))) (pg_name (i := 5) nd rfl (Or.inl rfl)) (pss_one (ps_if (pt_cmp (pc_dnotin (units1 hr) (pv 5) (pv 2))) (pss_cons (ps_dput (units1 hr) (pv 2) (pv 5) pe_bl rfl)
    (pss_one (ps_expr (pe_bm PySem.F.plainAttrs_list PySem.F.slot_list_append PySem.F.type_list_append mt_append (pv 3) (pa_cons (pv 5) pa_nil))))) pss_nil))))))
    (pss_one (ps_ret (pe_callTy call_tuple_of (by rfl) T.tuple (by decide +kernel) (pa_cons (pe_callB (call_sortedD rfl) (by rfl) T.sorted (by decide +kernel) (pa_cons (pv 2) pa_nil)) pa_nil))))))), ?_⟩)
  · obtain ⟨p, ys, x, ns, rfl, _⟩ := h
    rfl
  · obtain ⟨p, ys, x, ns, rfl, hp, ta, hl, hn, hx, hin, k⟩ := h
    walk_at "rd"
    refine fun D1 hD1 => ?_
    walk_at "rd"
    refine ⟨_, rfl, ?_⟩
    walk_at "rd"
    refine ⟨upd_same, [(Sum.inr x, V.bl true)], rfl, Nat.le_add_left _ _, ?_⟩
    walk_at "rd"
    refine ⟨small64 (n := 1) (by decide), fun D2 hD2 => ?_⟩
    have n21 : D2 ≠ D1 := fun e => by
      rw [e, upd_same] at hD2
      exact nomatch hD2
    have hD2' : H D2 = none := by
      rw [upd_ne n21, upd_ne n21] at hD2
      exact hD2
    have I0 : RI H D1 D2 (ys.map (·.2)) x ns [x] [x] (upd (upd (upd H D1 (.dK [])) D1 (.dK (mergeK [] [(Sum.inr x, V.bl true)]))) D2 (.lst [V.str x])) :=
      ⟨(((Ex.refl H).mut hD1).mut hD1).mut hD2', by rw [upd_ne (Ne.symm n21), upd_same]; rfl, upd_same, by simp, fun r hr => by rw [List.mem_singleton.mp hr]; exact hx, fun r hr => by rw [List.mem_singleton.mp hr]; exact .here, List.mem_singleton.mpr rfl, fun r hr => hr, Nat.le_refl _⟩
    generalize upd (upd (upd H D1 (.dK [])) D1 (.dK (mergeK [] [(Sum.inr x, V.bl true)]))) D2 (.lst [V.str x]) = H2 at I0 ⊢
    clear hD2
    walk_at "rd"
    refine ⟨fun m σ H' => ∃ (R T : List Str) (h o : Option V), σ = [some (.ref p), some (.str x), some (.ref D1), some (.ref D2), h, o] ∧ RI H D1 D2 (ys.map (·.2)) x ns R T H' ∧ (∀ r ∈ R, r ∈ T ∨ ∀ b ∈ endsL (ys.map (·.2)) r, b ∈ R) ∧ m = 2 * (64 - R.length) + T.length, ⟨_, [x], [x], none, none, rfl, I0, fun r hr => Or.inl hr, rfl⟩, ?_⟩
    rintro m σ H' ⟨R, T, h, o, rfl, I, cl, rfl⟩
    walk_at "rd"
    refine ⟨_, Or.inl ⟨_, SqL.of I.d2, rfl⟩, ?_⟩
    rcases List.eq_nil_or_concat T with rfl | ⟨T', t, rfl⟩
    · rw [if_neg (by simp)]
      walk_at "rd"
      have rl := nodup_le R ns I.nd I.sub
      refine ⟨D1, kd R, R, rfl, .inl I.d1, by unfold kd; rw [List.map_map]; rfl, by omega, fun ks q pm so hq => ?_⟩
      walk_at "rd"
      refine ⟨q, ks.map V.str, rfl, Or.inl ⟨SqL.of upd_same, fun l hl2 => ?_⟩⟩
      refine k ks so (pm.symm.nodup I.nd) (fun z => ⟨fun hz => I.rch z (pm.mem_iff.mp hz), fun hz => pm.mem_iff.mpr ?_⟩) l _ ((I.ex.trans (Ex.new hq)).trans (Ex.new hl2)) upd_same
      induction hz with
      | here => exact I.at_
      | on _ hb ih => exact ((cl _ ih).resolve_left (fun z => nomatch z)) _ hb
    · rw [List.concat_eq_append] at I cl ⊢
      rw [if_pos (by simp)]
      refine ⟨_, fun σ' H' h => h, ?_⟩
      refine ⟨_, rfl, Or.inl ⟨rfl, _, SqL.of I.d2⟩, ?_⟩
      have dl : ((T' ++ [t]).map V.str).dropLast = T'.map V.str := by rw [List.map_append]; exact List.dropLast_concat
      refine ⟨D2, _, .str t, rfl, rfl, I.d2, ?_, ?_⟩
      · rw [List.map_append, List.length_append]
        simp
      rw [dl]
      have tR := I.todo t (List.mem_append_right _ List.mem_cons_self)
      have tl := I.tl
      rw [List.length_append] at tl
      have Iq : RI H D1 D2 (ys.map (·.2)) x ns R T' (upd H' D2 (.lst (T'.map V.str))) :=
        ⟨I.ex.mut hD2', by rw [upd_ne (Ne.symm n21)]; exact I.d1, upd_same, I.nd, I.sub, I.rch, I.at_, fun r hr => I.todo r (List.mem_append_left _ hr), by omega⟩
      generalize upd H' D2 (.lst (T'.map V.str)) = H3 at Iq ⊢
      walk_at "rd"
      with_reducible refine Rd.for' ?_
      show tCall _ _ _ _ _ _ _
      walk_at "rd"
      refine ⟨p, ys, t, rfl, Iq.ex _ _ hp, ta.ex Iq.ex, hl, fun es pm so q H4 e4 hq => ?_⟩
      have I4 : RI H D1 D2 (ys.map (·.2)) x ns R T' H4 := ⟨Iq.ex.trans e4, e4 _ _ Iq.d1, e4 _ _ Iq.d2, Iq.nd, Iq.sub, Iq.rch, Iq.at_, Iq.todo, Iq.tl⟩
      refine ⟨q, rfl, ⟨_, SqT.of hq⟩, ?_⟩
      have c0 : ∀ r ∈ R, r ∈ T' ∨ r = t ∨ ∀ b ∈ endsL (ys.map (·.2)) r, b ∈ R := fun r hr => by
        rcases cl r hr with z | z
        · rcases List.mem_append.mp z with z | z
          · exact Or.inl z
          · exact Or.inr (Or.inl (List.mem_singleton.mp z))
        · exact Or.inr (Or.inr z)
      refine for_it (walk_tup (xs := es.map V.str)) (fun i σ H' => ∃ (R2 T2 : List Str) (o : Option V), σ = [some (.ref p), some (.str x), some (.ref D1), some (.ref D2), some (.str t), o] ∧ RI H D1 D2 (ys.map (·.2)) x ns R2 T2 H' ∧ H' q = some (.tup (es.map V.str)) ∧ (∀ r ∈ R, r ∈ R2) ∧ (∀ r ∈ R2, r ∈ T2 ∨ r = t ∨ ∀ b ∈ endsL (ys.map (·.2)) r, b ∈ R2) ∧ (∀ (j : Nat) (b : Str), j < i → es[j]? = some b → b ∈ R2) ∧ 2 * (64 - R2.length) + T2.length ≤ 2 * (64 - R.length) + T'.length)
        ⟨R, T', o, rfl, I4, hq, fun _ h => h, c0, fun _ _ h => absurd h (Nat.not_lt_zero _), Nat.le_refl _⟩ (fun i σ H' _ hP => ?_) (fun i z σ H5 H6 hi hP hY => ?_) (fun σ H5 hP => ?_)
      · obtain ⟨R2, T2, o, rfl, I5, hq5, _⟩ := hP
        exact SqT.of hq5
      · obtain ⟨R2, T2, o, rfl, I5, hq5, sR, c5, d5, me⟩ := hP
        obtain ⟨rfl, hz⟩ := hY
        rw [List.getElem?_map] at hz
        cases hb : es[i]? with
        | none => rw [hb] at hz; exact nomatch hz
        | some b =>
          rw [hb] at hz
          cases hz
          have bE' : b ∈ endsL (ys.map (·.2)) t := pm.mem_iff.mp (List.mem_of_getElem? hb)
          have bn := ends_in hin bE'
          have rl := nodup_le R2 ns I5.nd I5.sub
          have t2 := I5.tl
          walk_at "rd"
          refine ⟨_, rfl, ?_⟩
          walk_at "rd"
          refine ⟨D1, _, rfl, DGet.k (k := Sum.inr b) I5.d1, ?_⟩
          rw [kd_in]
          by_cases c : b ∈ R2
          · rw [decide_eq_true c]
            walk_at "rd"
            rw [if_neg (by decide)]
            walk_at "rd"
            refine ⟨R2, T2, _, rfl, I5, hq5, sR, c5, fun j b' hj hb' => ?_, me⟩
            rcases Nat.lt_or_eq_of_le (Nat.le_of_lt_succ hj) with z | z
            · exact d5 j b' z hb'
            · subst z
              rw [hb] at hb'
              cases hb'
              exact c
          · rw [decide_eq_false c]
            walk_at "rd"
            rw [if_pos (by decide)]
            walk_at "rd"
            refine ⟨_, rfl, ?_⟩
            walk_at "rd"
            refine ⟨D1, _, rfl, DPut.k (k := Sum.inr b) I5.d1 ?_, ?_⟩
            · unfold kd
              rw [List.length_map]
              exact sz_lt (by omega)
            rw [kd_put c]
            walk_at "rd"
            have nq1 : q ≠ D1 := fun e => by
              rw [e, I5.d1] at hq5
              exact nomatch hq5
            have nq2 : q ≠ D2 := fun e => by
              rw [e, I5.d2] at hq5
              exact nomatch hq5
            have g1 : (upd H6 D1 (.dK (kd (R2 ++ [b])))) D1 = some (.dK (kd (R2 ++ [b]))) := upd_same
            have g2 : (upd H6 D1 (.dK (kd (R2 ++ [b])))) D2 = some (.lst (T2.map V.str)) := (upd_ne n21).trans I5.d2
            have gq : (upd H6 D1 (.dK (kd (R2 ++ [b])))) q = some (.tup (es.map V.str)) := (upd_ne nq1).trans hq5
            have ge : Ex H (upd H6 D1 (.dK (kd (R2 ++ [b])))) := I5.ex.mut hD1
            generalize upd H6 D1 (.dK (kd (R2 ++ [b]))) = H7 at g1 g2 gq ge ⊢
            refine ⟨_, rfl, Or.inl ⟨rfl, _, SqL.of g2⟩, ?_⟩
            walk_at "rd"
            refine ⟨D2, T2.map V.str, .str b, rfl, rfl, g2, ?_, ?_⟩
            · rw [List.length_map]
              exact sz_lt (by omega)
            have nd2 : (R2 ++ [b]).Nodup := List.nodup_append.mpr ⟨I5.nd, by simp, fun a ha c' hc e => c (by rw [← List.mem_singleton.mp hc, ← e]; exact ha)⟩
            have sub2 : ∀ r ∈ R2 ++ [b], r ∈ ns := fun r hr => by
              rcases List.mem_append.mp hr with z | z
              · exact I5.sub r z
              · rw [List.mem_singleton.mp z]
                exact bn
            have rl2 := nodup_le _ ns nd2 sub2
            rw [List.length_append] at rl2
            have rl3 : R2.length + 1 ≤ ns.length := rl2
            refine ⟨R2 ++ [b], T2 ++ [b], _, rfl, ⟨ge.mut hD2', (upd_ne (Ne.symm n21)).trans g1, by rw [List.map_append]; exact upd_same, nd2, sub2, fun r hr => ?_, List.mem_append_left _ I5.at_, fun r hr => ?_, ?_⟩, (upd_ne nq2).trans gq, fun r hr => List.mem_append_left _ (sR r hr), fun r hr => ?_, fun j b' hj hb' => ?_, ?_⟩
            · rcases List.mem_append.mp hr with z | z
              · exact I5.rch r z
              · rw [List.mem_singleton.mp z]
                exact .on (I5.rch t (sR t tR)) bE'
            · rcases List.mem_append.mp hr with z | z
              · exact List.mem_append_left _ (I5.todo r z)
              · exact List.mem_append_right _ z
            · rw [List.length_append, List.length_append]
              exact Nat.add_le_add_right t2 _
            · rcases List.mem_append.mp hr with z | z
              · rcases c5 r z with y | y | y
                · exact Or.inl (List.mem_append_left _ y)
                · exact Or.inr (Or.inl y)
                · exact Or.inr (Or.inr fun b' hb' => List.mem_append_left _ (y b' hb'))
              · exact Or.inl (List.mem_append_right _ z)
            · rcases Nat.lt_or_eq_of_le (Nat.le_of_lt_succ hj) with z | z
              · exact List.mem_append_left _ (d5 j b' z hb')
              · subst z
                rw [hb] at hb'
                cases hb'
                exact List.mem_append_right _ (List.mem_singleton.mpr rfl)
            · rw [List.length_append, List.length_append]
              show 2 * (64 - (R2.length + 1)) + (T2.length + 1) ≤ _
              omega
      · obtain ⟨R2, T2, o, rfl, I5, hq5, sR, c5, d5, me⟩ := hP
        rw [List.length_map] at d5
        refine ⟨_, ?_, R2, T2, _, o, rfl, I5, fun r hr => ?_, rfl⟩
        · rw [List.length_append]
          show _ < _ + (_ + 1)
          omega
        · rcases c5 r hr with z | z | z
          · exact Or.inl z
          · subst z
            refine Or.inr fun b hb => ?_
            obtain ⟨j, hj⟩ := List.getElem?_of_mem (pm.mem_iff.mpr hb)
            exact d5 j b (List.getElem?_eq_some_iff.mp hj).1 hj
          · exact Or.inr z
end
end OwW

namespace OwW
open PySem PyProof.Rows L2 L2H OwX Rd Evl
theorem lt_irr (a : Str) : OwL2.lt a a = false := decide_eq_false (List.lt_irrefl _)
theorem lt_tr {a b c : Str} (h : OwL2.lt a b = true) (g : OwL2.lt b c = true) : OwL2.lt a c = true :=
  decide_eq_true (List.lt_trans (of_decide_eq_true h) (of_decide_eq_true g))
theorem str_ext {a b : Str} (h : a.cps.toList = b.cps.toList) : a = b := by
  obtain ⟨⟨x⟩⟩ := a
  obtain ⟨⟨y⟩⟩ := b
  cases h
  rfl
theorem lt_tot {a b : Str} (h : OwL2.lt a b = false) (n : a ≠ b) : OwL2.lt b a = true := by
  have h' : ¬ a.cps.toList < b.cps.toList := of_decide_eq_false h
  refine decide_eq_true (Decidable.byContradiction fun g => n (str_ext ?_))
  exact List.le_antisymm (List.not_lt.mp g) (List.not_lt.mp h')
theorem ascB_of {α : Type} {r : α → α → Bool} : ∀ {l : List α}, l.Pairwise (fun a b => r a b = true) → ascB r l = true
  | [], _ => rfl
  | [_], _ => rfl
  | a :: b :: l, h => by
    obtain ⟨h1, h2⟩ := List.pairwise_cons.mp h
    show (r a b && ascB r (b :: l)) = true
    rw [h1 b List.mem_cons_self, ascB_of h2]
    rfl
theorem ascB_pw {α : Type} {r : α → α → Bool} (tr : ∀ {a b c}, r a b = true → r b c = true → r a c = true) : ∀ {l : List α}, ascB r l = true → l.Pairwise (fun a b => r a b = true)
  | [], _ => List.Pairwise.nil
  | [_], _ => List.Pairwise.cons (fun _ h => nomatch h) List.Pairwise.nil
  | a :: b :: l, h => by
    have h' : (r a b && ascB r (b :: l)) = true := h
    rw [Bool.and_eq_true] at h'
    have ih := ascB_pw @tr h'.2
    refine List.pairwise_cons.mpr ⟨fun c hc => ?_, ih⟩
    rcases List.mem_cons.mp hc with rfl | hc
    · exact h'.1
    · exact tr h'.1 ((List.pairwise_cons.mp ih).1 c hc)
theorem asc_sorted : ∀ {l : List Str}, sortedS l = true → l.Nodup → ascB OwL2.lt l = true
  | [], _, _ => rfl
  | [_], _, _ => rfl
  | a :: b :: l, h, n => by
    have h' : (!Spec.ltCps b.cps.toList a.cps.toList && risingS b l) = true := h
    rw [Bool.and_eq_true] at h'
    obtain ⟨n1, n2⟩ := List.nodup_cons.mp n
    have ih := asc_sorted (l := b :: l) h'.2 n2
    show (OwL2.lt a b && ascB OwL2.lt (b :: l)) = true
    rw [ih, Bool.and_true]
    refine lt_tot (a := b) (b := a) ?_ fun e => n1 (by rw [← e]; exact List.mem_cons_self)
    have z := h'.1
    rw [Bool.not_eq_true', ltCps_eq] at z
    exact z
theorem asc_eq : ∀ {l m : List Str}, l.Pairwise (fun a b => OwL2.lt a b = true) → m.Pairwise (fun a b => OwL2.lt a b = true) → (∀ k, k ∈ l ↔ k ∈ m) → l = m
  | [], [], _, _, _ => rfl
  | [], b :: m, _, _, h => nomatch (h b).mpr List.mem_cons_self
  | a :: l, [], _, _, h => nomatch (h a).mp List.mem_cons_self
  | a :: l, b :: m, hl, hm, h => by
    obtain ⟨l1, l2⟩ := List.pairwise_cons.mp hl
    obtain ⟨m1, m2⟩ := List.pairwise_cons.mp hm
    have ab : a = b := by
      rcases List.mem_cons.mp ((h a).mp List.mem_cons_self) with e | e
      · exact e
      · rcases List.mem_cons.mp ((h b).mpr List.mem_cons_self) with f | f
        · exact f.symm
        · have z := lt_tr (m1 a e) (l1 b f)
          rw [lt_irr] at z
          exact nomatch z
    subst ab
    rw [asc_eq l2 m2 fun k => ⟨fun hk => ?_, fun hk => ?_⟩]
    · rcases List.mem_cons.mp ((h k).mp (List.mem_cons_of_mem _ hk)) with e | e
      · have z := l1 k hk
        rw [e, lt_irr] at z
        exact nomatch z
      · exact e
    · rcases List.mem_cons.mp ((h k).mpr (List.mem_cons_of_mem _ hk)) with e | e
      · have z := m1 k hk
        rw [e, lt_irr] at z
        exact nomatch z
      · exact e
theorem ltP_tr {a b c : Str × Str} (h : OwL2.ltP a b = true) (g : OwL2.ltP b c = true) : OwL2.ltP a c = true := by
  unfold OwL2.ltP at h g ⊢
  by_cases e : a.1 = b.1
  · rw [if_pos e] at h
    by_cases f : b.1 = c.1
    · rw [if_pos f] at g
      rw [if_pos (e.trans f)]
      exact lt_tr h g
    · rw [if_neg f] at g
      rw [if_neg (fun z => f (e.symm.trans z)), e]
      exact g
  · rw [if_neg e] at h
    by_cases f : b.1 = c.1
    · rw [if_pos f] at g
      rw [if_neg (fun z => e (z.trans f.symm)), ← f]
      exact h
    · rw [if_neg f] at g
      have z := lt_tr h g
      rw [if_neg (fun y => by rw [y, lt_irr] at z; exact nomatch z)]
      exact z
/-- places and ties of a web -/
structure WebOk (ks : List Str) (ts : List (Str × Str)) : Prop where
  names : ∀ k ∈ ks, nameB k = true
  two : 2 ≤ ks.length
  nine : ks.length ≤ 9
  asc : ks.Pairwise (fun a b => OwL2.lt a b = true)
  ends : ∀ t ∈ ts, t.1 ∈ ks ∧ t.2 ∈ ks ∧ OwL2.lt t.1 t.2 = true
  few : ts.length ≤ 18
  tasc : ts.Pairwise (fun a b => OwL2.ltP a b = true)
  join : ∀ k ∈ ks, Rch ts (ks.getD 0 "") k
theorem rch_in {ks : List Str} {ts : List (Str × Str)} (h : ∀ t ∈ ts, t.1 ∈ ks ∧ t.2 ∈ ks ∧ OwL2.lt t.1 t.2 = true) {x k : Str} (hx : x ∈ ks) (r : Rch ts x k) : k ∈ ks := by
  induction r with
  | here => exact hx
  | on _ hb _ =>
    unfold endsL at hb
    obtain ⟨t, ht, rfl⟩ := List.mem_map.mp hb
    have z := h t (List.mem_filter.mp ht).1
    unfold far
    split
    · exact z.2.1
    · exact z.1
theorem WebOk.reached {ks : List Str} {ts : List (Str × Str)} (W : WebOk ks ts) {l : List Str} (so : sortedS l = true) (nd : l.Nodup) (h : ∀ k, k ∈ l ↔ Rch ts (ks.getD 0 "") k) : l = ks := by
  refine asc_eq (ascB_pw (r := OwL2.lt) (fun h g => lt_tr h g) (asc_sorted so nd)) W.asc fun k => ⟨fun hk => ?_, fun hk => (h k).mpr (W.join k hk)⟩
  refine rch_in W.ends ?_ ((h k).mp hk)
  have z := W.two
  cases ks with
  | nil => exact absurd z (by decide)
  | cons a r => exact List.mem_cons_self
end OwW


namespace OwW
open PySem PyProof.Rows L2 L2H OwX Rd Evl
abbrev sPlaces : Stmt := top 25
abbrev sTies : Stmt := top 26
abbrev sIsWeb : Stmt := top 24
abbrev NTi : List Str := ["places", "value", "a", "b", "tie"]
/-- places at p, ties at q -/
structure WebAt (H : Hp) (p q : Addr) (ks : List Str) (ys : TL) : Prop where
  ps : H p = some (.tup (ks.map V.str))
  ts : H q = some (.tup (rf ys))
  ta : TA H ys
theorem WebAt.ex {H H' : Hp} {p q : Addr} {ks : List Str} {ys : TL} (w : WebAt H p q ks ys) (e : Ex H H') : WebAt H' p q ks ys := ⟨e _ _ w.ps, e _ _ w.ts, w.ta.ex e⟩
def spPlaces : Sp := fun vs H Q _ => ∃ (p q : Addr) (ks : List Str) (ys : TL), vs = [.ref p] ∧ WebAt H p q ks ys ∧ WebOk ks (ys.map (·.2)) ∧ ∀ H', Ex H H' → Q (.bl true) H'
def spWebT : Sp := fun vs H Q _ => ∃ (p q : Addr) (ks : List Str) (ys : TL), vs = [.ref p, .ref q] ∧ WebAt H p q ks ys ∧ WebOk ks (ys.map (·.2)) ∧ ∀ H', Ex H H' → Q (.bl true) H'
theorem dhS {H : Hp} : ∀ {ks : List Str}, (∀ k ∈ ks, nameB k = true) → DhAll H (ks.map V.str) (ks.map PyData.str)
  | [], _ => .nil
  | k :: ks, h => .cons (.str k (name_short (h k List.mem_cons_self))) (dhS fun z hz => h z (List.mem_cons_of_mem _ hz))
theorem dhT {H : Hp} {ks : List Str} (hk : ∀ k ∈ ks, nameB k = true) : ∀ {ys : TL}, TA H ys → (∀ t ∈ ys.map (·.2), t.1 ∈ ks ∧ t.2 ∈ ks) → DhAll H (rf ys) (ys.map fun t => PyData.tuple [.str t.2.1, .str t.2.2])
  | [], _, _ => .nil
  | t :: ys, ta, h => by
    have z := h t.2 List.mem_cons_self
    exact .cons (.tup (ta t List.mem_cons_self) (by simp) (.cons (.str _ (name_short (hk _ z.1))) (.cons (.str _ (name_short (hk _ z.2))) .nil))) (dhT hk (fun y hy => ta y (List.mem_cons_of_mem _ hy)) fun y hy => h y (List.mem_cons_of_mem _ hy))
theorem flat_strs (ks : List Str) : (ks.map V.str).all flatV = true := by
  rw [List.all_eq_true]
  intro v hv
  obtain ⟨k, _, rfl⟩ := List.mem_map.mp hv
  rfl
theorem in_strs {ks : List Str} {x : Str} (h : x ∈ ks) : inV (.str x) (ks.map V.str) = true := by
  unfold inV
  rw [List.any_eq_true]
  exact ⟨.str x, List.mem_map.mpr ⟨x, h, rfl⟩, by show (x == x) = true; simp⟩
theorem names_all : ∀ {ks : List Str}, (∀ k ∈ ks, nameB k = true) → namesD (.tuple (ks.map PyData.str)) = true := fun {ks} h => by
  show (ks.map PyData.str).all nameD = true
  rw [List.all_eq_true]
  intro d hd
  obtain ⟨k, hk, rfl⟩ := List.mem_map.mp hd
  exact h k hk
section
variable {P : Program} {w : World} {K : PySem.W.Frag} {mg : Str → Option Value} {base : Heap}
theorem scPlaces : FnScope ["value"] ["value"] (defScope sPlaces) := ⟨rfl, rfl, rfl, by decide +kernel, rfl, by decide +kernel, by decide +kernel⟩
theorem ok_places {f g l : Addr} {fd gd ld : FuncData} {tM : Tok} (F : Fun K "_are_places" "_are_places" sPlaces f fd) (FN : Fun K "are_names" "are_names" sNames g gd) (gN : mg "are_names" = some (.ref g)) (GN : FnOk P w K mg base CX0 2 g gd ["value"] (spB namesD))
    (FA : Fun K "ascends" "ascends" sAsc l ld) (gA : mg "ascends" = some (.ref l)) (GA : FnOk P w K mg base CX0 1 l ld ["row"] spAsc) (gM : mg "MAX_PLACES" = some (.int 9 tM)) (T : BltB mg) : FnOk P w K mg base CX0 3 f fd ["value"] spPlaces := by
  have nd := scPlaces.nd
  have bN : Binds K gd ["value"] [] := FN.binds fun _ _ _ _ _ _ us hl => match us, hl with | [_], _ => rfl
  have bA : Binds K ld ["row"] [] := FA.binds fun _ _ _ _ _ _ us hl => match us, hl with | [_], _ => rfl
  refine F.ok scPlaces (fun vs H Q E h => ?_) (fun cdv A outer s H vs Q E hr h => ⟨_, (pss_one (ps_ret (pe_and (pe_call GN (hr.mono (by decide)) (by rfl) gN FN.kp bN .nil pass0 (pa_cons (pv 0) pa_nil)) (pe_and (pe_chain op_le op_le pe_int (pe_callB call_len_seq (by rfl) T.len (by decide +kernel) (pa_cons (pv 0) pa_nil)) (pe_glob (v := .int 9) (by rfl) gM ⟨_, rfl⟩)) (pe_one (pe_call GA (hr.mono (by decide)) (by rfl) gA FA.kp bA .nil pass0 (pa_cons (pv 0) pa_nil))))))), ?_⟩)
  · obtain ⟨p, q, ks, ys, rfl, _⟩ := h
    rfl
  · obtain ⟨p, q, ks, ys, rfl, wa, ok, k⟩ := h
    walk_at "rd"
    refine Rd.andv ?_
    walk_at "rd"
    have n9 := ok.nine
    have n2 := ok.two
    refine ⟨_, .tuple (ks.map PyData.str), rfl, .tup wa.ps (by rw [List.length_map]; omega) (dhS ok.names), fun H1 e1 => ⟨_, rfl, ?_⟩⟩
    rw [names_all ok.names]
    refine Rd.iteT rfl (Rd.andv ?_)
    walk_at "rd"
    refine Rd.chain ?_
    walk_at "rd"
    refine ⟨p, _, rfl, Or.inr (SqT.of (e1 _ _ wa.ps)), ?_⟩
    refine Rd.ii ⟨_, rfl, ?_⟩
    refine Rd.iteT (decide_eq_true (by rw [List.length_map]; omega)) ?_
    walk_at "rd"
    refine Rd.iteT (decide_eq_true (by rw [List.length_map]; omega)) ?_
    walk_at "rd"
    refine ⟨p, rfl, Or.inl ⟨ks, e1 _ _ wa.ps, by omega, fun H2 e2 => ?_⟩⟩
    have z := k H2 (e1.trans e2)
    rw [ascB_of (r := OwL2.lt) ok.asc]
    exact z
theorem scTies : FnScope NTi ["places", "value"] (defScope sTies) := ⟨rfl, rfl, rfl, by decide +kernel, rfl, by decide +kernel, by decide +kernel⟩
theorem ok_ties {f g l : Addr} {fd gd ld : FuncData} {tM : Tok} (F : Fun K "_are_ties" "_are_ties" sTies f fd) (FI : Fun K "is_tie" "is_tie" sIsTie g gd) (gI : mg "is_tie" = some (.ref g)) (GI : FnOk P w K mg base CX0 3 g gd ["value"] spIsTie)
    (FA : Fun K "ascends" "ascends" sAsc l ld) (gA : mg "ascends" = some (.ref l)) (GA : FnOk P w K mg base CX0 1 l ld ["row"] spAsc) (gM : mg "MAX_TIES" = some (.int 18 tM)) (T : BltB mg) : FnOk P w K mg base CX0 4 f fd ["places", "value"] spWebT := by
  have nd := scTies.nd
  have bI : Binds K gd ["value"] [] := FI.binds fun _ _ _ _ _ _ us hl => match us, hl with | [_], _ => rfl
  have bA : Binds K ld ["row"] [] := FA.binds fun _ _ _ _ _ _ us hl => match us, hl with | [_], _ => rfl
  refine F.ok scTies (fun vs H Q E h => ?_) (fun cdv A outer s H vs Q E hr h => ⟨_, (pss_cons (ps_if ((pw_or (pt_not (pt_val (pe_callB call_isi (by rfl) T.isinst (by decide +kernel) (pa_cons (pv 1) (pa_cons (pe_bltn (v := .ty "tuple") (by rfl) T.tuple (by decide +kernel) rfl) pa_nil))) (fun _ => rfl))) (pw_or (pt_cmpR op_gt (pe_callB call_len_seq (by rfl) T.len (by decide +kernel) (pa_cons (pv 1) pa_nil)) (pe_glob (v := .int 18) (by rfl) gM ⟨_, rfl⟩) (nomark _)) (pw_or1 (pt_not (pt_val (pe_callB (cr_all rfl) (by rfl) T.all (by decide +kernel) (pa_cons (pe_lc (own := [("tie", 4)]) (g := gName 4) (tt := tYes) rfl nd (pi_tup (pv 1)) (blkOk_by (own := [("tie", 4)]) (N := NTi) (sc := defScope sTies) (by decide +kernel)) (fun _ _ _ _ _ => (pg_name (i := 4) nd rfl (Or.inl rfl))) (fun _ _ _ _ _ => pts_nil) (fun _ _ _ _ _ => (pe_call GI (hr.mono (by decide)) (by rfl) gI FI.kp bI .nil pass0 (pa_cons (pv 4) pa_nil)))) pa_nil)) (fun _ => rfl))))))).pt (pss_one (ps_ret pe_bl)) pss_nil)
    (pss_one (ps_ret (pe_and (pe_call GA (hr.mono (by decide)) (by rfl) gA FA.kp bA .nil pass0 (pa_cons (pv 1) pa_nil)) (pe_one (pe_callB (cr_all rfl) (by rfl) T.all (by decide +kernel) (pa_cons (pe_lc (own := [("a", 2), ("b", 3)]) (g := gTup K 2 (gCons (gName 2) (gCons (gName 3) gNil))) (te := tAndV (tOp (rIn K false) (tVar 2) (tVar 0)) (tOp (rIn K false) (tVar 3) (tVar 0))) (tt := tYes) rfl nd (pi_tup (pv 1)) (blkOk_by (own := [("a", 2), ("b", 3)]) (N := NTi) (sc := defScope sTies) (by decide +kernel)) (fun _ _ _ _ _ => (pg_tup rfl (pgs_cons (pg_name (i := 2) nd rfl (Or.inl rfl)) (pgs_cons (pg_name (i := 3) nd rfl (Or.inl rfl)) pgs_nil)))) (fun _ _ _ _ _ => pts_nil) (fun _ _ _ _ _ => (pe_and (pe_cmpR op_in_seq (pv 2) (pv 0) (by with_unfolding_all rfl)) (pe_one (pe_cmpR op_in_seq (pv 3) (pv 0) (by with_unfolding_all rfl)))))) pa_nil))))))), ?_⟩)
  · obtain ⟨p, q, ks, ys, rfl, _⟩ := h
    rfl
  · obtain ⟨p, q, ks, ys, rfl, wa, ok, k⟩ := h
    walk_at "rd"
    have few := ok.few
    rw [List.length_map] at few
    have dt := dhT ok.names wa.ta fun t ht => ⟨(ok.ends t ht).1, (ok.ends t ht).2.1⟩
    refine Rd.isi (.tup wa.ts (by rw [List.length_map]; omega) dt) (by decide) ⟨_, rfl, ?_⟩
    refine Rd.iteF (by simp [isD, tyD]) ?_
    walk_at "rd"
    refine ⟨q, _, rfl, Or.inr (SqT.of wa.ts), ?_⟩
    walk_at "rd"
    have f18 : ¬ ((18 : Int) < ((rf ys).length : Int)) := by rw [List.length_map]; omega
    refine Rd.iteF (by rw [decide_eq_false f18]; decide) ?_
    walk_at "rd"
    refine Rd.lcm' ?_
    refine ⟨_, rfl, q, rfl, ⟨_, SqT.of wa.ts⟩, fun D hD => ?_⟩
    refine Rd.lc_mapG (walk_tup (xs := rf ys)) (fun _ => V.bl true) hD (by rw [List.length_map]; omega) (fun H' e => ex_t e (SqT.of wa.ts)) (fun i y Ha Hb R hi ea y1 hR => ?_) (fun H2 e2 h2 => ?_)
    · obtain ⟨rfl, y2⟩ := y1
      rw [List.getElem?_map] at y2
      cases ht : ys[i]? with
      | none => rw [ht] at y2; exact nomatch y2
      | some t =>
        rw [ht] at y2
        cases y2
        have tm := List.mem_of_getElem? ht
        have z := ok.ends t.2 (List.mem_map.mpr ⟨t, tm, rfl⟩)
        show _ ∧ _
        refine ⟨rfl, ?_⟩
        walk_at "rd"
        refine ⟨t.1, t.2.1, t.2.2, rfl, wa.ta.ex ea t tm, ok.names _ z.1, ok.names _ z.2.1, fun H4 e4 => ?_⟩
        rw [z.2.2]
        exact hR H4 e4
    · walk_at "rd"
      have wa2 := wa.ex e2
      rw [bls _ (fun _ => true)] at h2
      refine ⟨_, _, rfl, SqL.of h2, ?_⟩
      have al : ((List.range (rf ys).length).map fun _ => true).all id = true := by simp
      rw [al]
      refine ⟨_, rfl, ?_⟩
      refine Rd.iteF (by decide) ?_
      walk_at "rd"
      refine Rd.andv ?_
      walk_at "rd"
      refine ⟨q, rfl, Or.inr ⟨ys, wa2.ts, wa2.ta, by omega, fun H3 e3 => ⟨_, rfl, ?_⟩⟩⟩
      have wa3 := wa2.ex e3
      have n9 := ok.nine
      rw [ascB_of (r := OwL2.ltP) ok.tasc]
      refine Rd.iteT rfl ?_
      walk_at "rd"
      refine Rd.lcm' ?_
      refine ⟨_, rfl, q, rfl, ⟨_, SqT.of wa3.ts⟩, fun D' hD' => ?_⟩
      refine Rd.lc_mapG (walk_tup (xs := rf ys)) (fun _ => V.bl true) hD' (by rw [List.length_map]; omega) (fun H' e => ex_t e (SqT.of wa3.ts)) (fun i y Ha Hb R hi ea y1 hR => ?_) (fun H4 e4 h4 => ?_)
      · obtain ⟨rfl, y2⟩ := y1
        rw [List.getElem?_map] at y2
        cases ht : ys[i]? with
        | none => rw [ht] at y2; exact nomatch y2
        | some t =>
          rw [ht] at y2
          cases y2
          have tm := List.mem_of_getElem? ht
          have z := ok.ends t.2 (List.mem_map.mpr ⟨t, tm, rfl⟩)
          refine ⟨t.1, [.str t.2.1, .str t.2.2], rfl, SqT.of (wa3.ta.ex ea t tm), rfl, .str t.2.1, [.str t.2.2], rfl, ?_⟩
          walk_at "rd"
          refine ⟨.str t.2.2, [], rfl, ?_⟩
          walk_at "rd"
          refine ⟨rfl, ?_⟩
          show _ ∧ _
          refine ⟨rfl, ?_⟩
          walk_at "rd"
          refine Rd.andv ?_
          walk_at "rd"
          have hpl := ea _ _ wa3.ps
          refine ⟨p, ks.map V.str, rfl, Or.inr (SqT.of hpl), rfl, flat_strs ks, _, rfl, ?_⟩
          refine Rd.iteT (in_strs z.1) ?_
          walk_at "rd"
          refine ⟨p, ks.map V.str, rfl, Or.inr (SqT.of hpl), rfl, flat_strs ks, ?_⟩
          have g := hR _ (Ex.refl _)
          have iv : inV (.str t.2.2) (ks.map V.str) = true := in_strs z.2.1
          show R (.bl (inV (.str t.2.2) (ks.map V.str))) _
          rw [iv]
          exact g
      · walk_at "rd"
        rw [bls _ (fun _ => true)] at h4
        refine ⟨_, _, rfl, SqL.of h4, ?_⟩
        have al : ((List.range (rf ys).length).map fun _ => true).all id = true := by simp
        rw [al]
        exact k H4 ((e2.trans e3).trans e4)
end
end OwW


namespace OwW
open PySem PyProof.Rows L2 L2H OwX Rd Evl
theorem let_ok {c : Nat} (h : letB c = true) : c < 0x110000 := by
  unfold letB at h
  rw [Bool.and_eq_true] at h
  have z := h.2
  rw [Bool.not_eq_true'] at z
  have z' : ¬ (("z" : Str).cps.toList < [c]) := of_decide_eq_false z
  refine Decidable.byContradiction fun g => z' ?_
  show [122] < [c]
  exact List.Lex.rel (by omega)
theorem name_ok {x : Str} (h : nameB x = true) : PyData.strOk x = true := by
  unfold nameB at h
  rw [Bool.and_eq_true] at h
  have z := h.2
  rw [List.all_eq_true] at z
  show x.cps.all _ = true
  rw [Array.all_eq_true]
  intro i hi
  have y := z (letB (x.cps.getD i 0)) (List.mem_map.mpr ⟨i, List.mem_range.mpr hi, rfl⟩)
  have e : x.cps.getD i 0 = x.cps[i] := by simp [Array.getD, hi]
  rw [e] at y
  exact decide_eq_true (let_ok y)
theorem lay_strsT : ∀ {ss : List Str}, (∀ s ∈ ss, PyData.strOk s = true) → PyData.canLayAll0 (ss.map PyData.str) = true ∧ PyData.depthAll (ss.map PyData.str) = 0
  | [], _ => by simp [PyData.canLayAll0, PyData.depthAll]
  | s :: r, h => by
    have a := h s List.mem_cons_self
    obtain ⟨b, c⟩ := lay_strsT (ss := r) fun z hz => h z (List.mem_cons_of_mem _ hz)
    simp [PyData.canLayAll0, PyData.canLay0, PyData.depthAll, PyData.depth, a, b, c]
theorem shaped_tup {ss : List Str} (h : ∀ s ∈ ss, nameB s = true) : SeqAt.shaped (.tuple (ss.map PyData.str)) = true := by
  obtain ⟨a, b⟩ := lay_strsT fun s hs => name_ok (h s hs)
  simp [SeqAt.shaped, PyData.canLay0, PyData.depth, a, b]
theorem eqv_all : ∀ ss : List Str, PyData.eqvAll (ss.map PyData.str) (ss.map PyData.str) = true
  | [] => by simp [PyData.eqvAll]
  | s :: r => by
    have z := eqv_all r
    simp [PyData.eqvAll, PyData.eqv, z]
theorem eqv_tup (ss : List Str) : PyData.eqv (.tuple (ss.map PyData.str)) (.tuple (ss.map PyData.str)) = true := by
  simp [PyData.eqv, eqv_all]
theorem dp_strsT {K : PySem.W.Frag} {H : Hp} : ∀ ks : List Str, DpAll K H (ks.map V.str) (ks.map PyData.str)
  | [] => .nil
  | k :: ks => .cons (.str k) (dp_strsT ks)
section
variable {P : Program} {w : World} {K : PySem.W.Frag} {mg : Str → Option Value} {base : Heap}
theorem scIsWeb : FnScope ["places", "ties"] ["places", "ties"] (defScope sIsWeb) := ⟨rfl, rfl, rfl, by decide +kernel, rfl, by decide +kernel, by decide +kernel⟩
theorem ok_isweb {f g l m : Addr} {fd gd ld md : FuncData} (F : Fun K "_is_web" "_is_web" sIsWeb f fd) (FP : Fun K "_are_places" "_are_places" sPlaces g gd) (gP : mg "_are_places" = some (.ref g)) (GP : FnOk P w K mg base CX0 3 g gd ["value"] spPlaces)
    (FT : Fun K "_are_ties" "_are_ties" sTies l ld) (gT : mg "_are_ties" = some (.ref l)) (GT : FnOk P w K mg base CX0 4 l ld ["places", "value"] spWebT)
    (FR : Fun K "reached_along" "reached_along" sReach m md) (gR : mg "reached_along" = some (.ref m)) (GR : FnOk P w K mg base CX0 2 m md ["ties", "place"] spReach) : FnOk P w K mg base CX0 5 f fd ["places", "ties"] spWebT := by
  have nd := scIsWeb.nd
  have bP : Binds K gd ["value"] [] := FP.binds fun _ _ _ _ _ _ us hl => match us, hl with | [_], _ => rfl
  have bT : Binds K ld ["places", "value"] [] := FT.binds fun _ _ _ _ _ _ us hl => match us, hl with | [_, _], _ => rfl
  have bR : Binds K md ["ties", "place"] [] := FR.binds fun _ _ _ _ _ _ us hl => match us, hl with | [_, _], _ => rfl
  refine F.ok scIsWeb (fun vs H Q E h => ?_) (fun cdv A outer s H vs Q E hr h => ⟨_, (pss_one (ps_ret (pe_and (pe_call GP (hr.mono (by decide)) (by rfl) gP FP.kp bP .nil pass0 (pa_cons (pv 0) pa_nil)) (pe_and (pe_call GT (hr.mono (by decide)) (by rfl) gT FT.kp bT .nil pass0 (pa_cons (pv 0) (pa_cons (pv 1) pa_nil))) (pe_one (pe_cmpR (op_eqD hr.units) (pe_call GR (hr.mono (by decide)) (by rfl) gR FR.kp bR .nil pass0 (pa_cons (pv 1) (pa_cons (pe_ix ix_tup (pv 0) pe_int (fun _ _ => rfl)) pa_nil))) (pv 0) (nomark _))))))), ?_⟩)
  · obtain ⟨p, q, ks, ys, rfl, _⟩ := h
    rfl
  · obtain ⟨p, q, ks, ys, rfl, wa, ok, k⟩ := h
    walk_at "rd"
    refine Rd.andv ?_
    walk_at "rd"
    refine ⟨p, q, ks, ys, rfl, wa, ok, fun H1 e1 => ⟨_, rfl, ?_⟩⟩
    refine Rd.iteT rfl (Rd.andv ?_)
    walk_at "rd"
    have wa1 := wa.ex e1
    refine ⟨p, q, ks, ys, rfl, wa1, ok, fun H2 e2 => ⟨_, rfl, ?_⟩⟩
    refine Rd.iteT rfl ?_
    walk_at "rd"
    have wa2 := wa1.ex e2
    have few := ok.few
    have n9 := ok.nine
    have n2 := ok.two
    rw [List.length_map] at few
    have h0 : ∃ k0 r, ks = k0 :: r := by
      cases ks with
      | nil => exact absurd n2 (by decide)
      | cons a r => exact ⟨a, r, rfl⟩
    obtain ⟨k0, kr, hk0⟩ := h0
    have m0 : ks.getD 0 "" ∈ ks := by rw [hk0]; exact List.mem_cons_self
    have a0 : atI (ks.map V.str) 0 = some (.str (ks.getD 0 "")) := by
      rw [hk0]
      unfold atI ixN
      simp
    refine Rd.ixt (SqT.of wa2.ps) a0 ?_
    walk_at "rd"
    refine ⟨q, ys, ks.getD 0 "", ks, rfl, wa2.ts, wa2.ta, by omega, by omega, m0, fun t ht => ?_, fun l so nd' h r H3 e3 hr3 => ?_⟩
    · have z := ok.ends t.2 (List.mem_map.mpr ⟨t, ht, rfl⟩)
      exact ⟨z.1, z.2.1⟩
    · walk_at "rd"
      have el := ok.reached so nd' h
      subst el
      have sh : SeqAt.shaped (.tuple (l.map PyData.str)) = true := shaped_tup ok.names
      have eq : PyData.eqv (.tuple (l.map PyData.str)) (.tuple (l.map PyData.str)) = true := eqv_tup l
      refine ⟨.tuple (l.map PyData.str), .tuple (l.map PyData.str), .tup (SqT.of hr3) (dp_strsT l), .tup (SqT.of (e3 _ _ wa2.ps)) (dp_strsT l), sh, sh, ?_⟩
      rw [eq]
      exact k H3 ((e1.trans e2).trans e3)
end
end OwW


namespace OwW
open PySem PyProof.Rows L2 L2H OwX Rd Evl
abbrev sInit : Stmt := mth 15 0
abbrev NIn : List Str := ["self", "places", "ties", "place"]
/-- rows that are never run -/
theorem pss_dead {X : Cx} {ss : List Stmt} : PSs X ss (fun _ _ _ => False) := ⟨fun _ _ _ _ _ _ h => h.elim⟩
def ent (t : Str × Addr × List Str) : Key × V := (Sum.inr t.1, V.ref t.2.1)
structure NearOk (H : Hp) (ts : List (Str × Str)) (t : Str × Addr × List Str) : Prop where
  at_ : H t.2.1 = some (.tup (t.2.2.map V.str))
  pm : t.2.2.Perm (endsL ts t.1)
  so : sortedS t.2.2 = true
theorem NearOk.ex {H H' : Hp} {ts : List (Str × Str)} {t : Str × Addr × List Str} (n : NearOk H ts t) (e : Ex H H') : NearOk H' ts t := ⟨e _ _ n.at_, n.pm, n.so⟩
/-- a web at a -/
structure IsWeb (C : Addr) (H : Hp) (a : Addr) (ks : List Str) (ys : TL) : Prop where
  ok : WebOk ks (ys.map (·.2))
  at_ : ∃ (dx p q n : Addr) (nl : List (Str × Addr × List Str)), H a = some (.ins C dx [("_places", .ref p), ("_ties", .ref q), ("_near", .ref n)]) ∧ WebAt H p q ks ys ∧ H n = some (.dK (nl.map ent)) ∧ nl.map (·.1) = ks ∧ ∀ t ∈ nl, NearOk H (ys.map (·.2)) t
theorem IsWeb.ex {C : Addr} {H H' : Hp} {a : Addr} {ks : List Str} {ys : TL} (w : IsWeb C H a ks ys) (e : Ex H H') : IsWeb C H' a ks ys := by
  obtain ⟨dx, p, q, n, nl, h1, h2, h3, h4, h5⟩ := w.at_
  exact ⟨w.ok, dx, p, q, n, nl, e _ _ h1, h2.ex e, e _ _ h3, h4, fun t ht => (h5 t ht).ex e⟩
def spInit (C : Addr) : Sp := fun vs H Q _ => ∃ (a p q dx : Addr) (ks : List Str) (ys : TL) (H0 : Hp), vs = [.ref a, .ref p, .ref q] ∧ H0 a = none ∧ Ex H0 H ∧ H a = some (.ins C dx []) ∧ WebAt H0 p q ks ys ∧ WebOk ks (ys.map (·.2)) ∧ ∀ H', Ex H0 H' → IsWeb C H' a ks ys → Q .non H'
theorem ent_none {nl : List (Str × Addr × List Str)} {k : Str} (h : ¬ k ∈ nl.map (·.1)) : valV (nl.map ent) (Sum.inr k) = none := by
  induction nl with
  | nil => rfl
  | cons t nl ih =>
    rw [List.map_cons, List.mem_cons, not_or] at h
    rw [List.map_cons, valV_neg (fun e => h.1 (Sum.inr.inj e).symm)]
    exact ih h.2
structure WebK (K : PySem.W.Frag) (C : Addr) : Prop where
  cls : Cls K C
  np : NoAttr K C "_places"
  nt : NoAttr K C "_ties"
  nn : NoAttr K C "_near"
section
variable {P : Program} {w : World} {K : PySem.W.Frag} {mg : Str → Option Value} {base : Heap}
theorem scInit : FnScope NIn ["self", "places", "ties"] (defScope sInit) := ⟨rfl, rfl, rfl, by decide +kernel, rfl, by decide +kernel, by decide +kernel⟩
theorem ok_init {f g l C : Addr} {fd gd ld : FuncData} (F : Fun K "__init__" "Web.__init__" sInit f fd) (FW : Fun K "_is_web" "_is_web" sIsWeb g gd) (gW : mg "_is_web" = some (.ref g)) (GW : FnOk P w K mg base CX0 5 g gd ["places", "ties"] spWebT)
    (FE : Fun K "_ends_off" "_ends_off" sEnds l ld) (gE : mg "_ends_off" = some (.ref l)) (GE : FnOk P w K mg base CX0 1 l ld ["ties", "place"] spEnds) (WK : WebK K C) : FnOk P w K mg base CX0 6 f fd ["self", "places", "ties"] (spInit C) := by
  have nd := scInit.nd
  have bW : Binds K gd ["places", "ties"] [] := FW.binds fun _ _ _ _ _ _ us hl => match us, hl with | [_, _], _ => rfl
  have bE : Binds K ld ["ties", "place"] [] := FE.binds fun _ _ _ _ _ _ us hl => match us, hl with | [_, _], _ => rfl
  refine F.ok scInit (fun vs H Q E h => ?_) (fun cdv A outer s H vs Q E hr h => ⟨_, (pss_cons (ps_if (pt_not (pt_val (pe_call GW (hr.mono (by decide)) (by rfl) gW FW.kp bW .nil pass0 (pa_cons (pv 1) (pa_cons (pv 2) pa_nil))) (fun _ => rfl))) pss_dead pss_nil)
    (pss_cons (ps_fld (pv 0) (pv 1) rfl)
    (pss_cons (ps_fld (pv 0) (pv 2) rfl)
    (pss_one (ps_fld (pv 0) (pe_dc (own := [("place", 3)]) (g := gName 3) (tt := tYes) rfl nd (pi_tup (pv 1)) (blkOk_by (own := [("place", 3)]) (N := NIn) (sc := defScope sInit) (by decide +kernel)) (fun _ _ _ _ _ => (pg_name (i := 3) nd rfl (Or.inl rfl))) (fun _ _ _ _ _ => pts_nil) (fun _ _ _ _ _ => (pv 3)) (fun _ _ _ _ _ => (pe_call GE (hr.mono (by decide)) (by rfl) gE FE.kp bE .nil pass0 (pa_cons (pv 2) (pa_cons (pv 3) pa_nil))))) rfl))))), ?_⟩)
  · obtain ⟨a, p, q, dx, ks, ys, H0, rfl, _⟩ := h
    rfl
  · obtain ⟨a, p, q, dx, ks, ys, H0, rfl, ha0, e0, ha, wa, ok, k⟩ := h
    walk_at "rd"
    refine ⟨p, q, ks, ys, rfl, wa.ex e0, ok, fun H1 e1 => ⟨_, rfl, ?_⟩⟩
    refine Rd.iteF (by decide) ?_
    walk_at "rd"
    have E1 : Ex H0 H1 := e0.trans e1
    refine ⟨_, rfl, ?_⟩
    walk_at "rd"
    refine ⟨a, C, dx, [], rfl, e1 _ _ ha, WK.cls, WK.np, by decide, ?_⟩
    have E2 : Ex H0 (upd H1 a (.ins C dx (putF "_places" (.ref p) []))) := E1.mut ha0
    have a2 : (upd H1 a (.ins C dx (putF "_places" (.ref p) []))) a = some (.ins C dx [("_places", .ref p)]) := upd_same
    generalize upd H1 a (.ins C dx (putF "_places" (.ref p) [])) = H2 at E2 a2 ⊢
    walk_at "rd"
    refine ⟨_, rfl, ?_⟩
    walk_at "rd"
    refine ⟨a, C, dx, _, rfl, a2, WK.cls, WK.nt, by simp, ?_⟩
    have E3 : Ex H0 (upd H2 a (.ins C dx (putF "_ties" (.ref q) [("_places", .ref p)]))) := E2.mut ha0
    have a3 : (upd H2 a (.ins C dx (putF "_ties" (.ref q) [("_places", .ref p)]))) a = some (.ins C dx [("_places", .ref p), ("_ties", .ref q)]) := upd_same
    generalize upd H2 a (.ins C dx (putF "_ties" (.ref q) [("_places", .ref p)])) = H3 at E3 a3 ⊢
    walk_at "rd"
    have wa3 := wa.ex E3
    have n9 := ok.nine
    have few := ok.few
    rw [List.length_map] at few
    dsimp only
    unfold sFld tDc iTup
    walk_at "rd"
    refine ⟨p, rfl, ⟨_, SqT.of wa3.ps⟩, fun D hD => ?_⟩
    refine dc_tup (xs := ks.map V.str) (fun i H4 => Ex H3 H4 ∧ ∃ nl : List (Str × Addr × List Str), H4 D = some (.dK (nl.map ent)) ∧ nl.map (·.1) = ks.take i ∧ ∀ t ∈ nl, NearOk H4 (ys.map (·.2)) t) ⟨Ex.new hD, [], upd_same, rfl, fun _ h => nomatch h⟩ (fun i H4 _ hP => SqT.of (hP.1 _ _ wa3.ps)) (fun i z H4 hz hP => ?_) (fun H4 hP => ?_)
    · obtain ⟨e4, nl, hn, hk, near⟩ := hP
      rw [List.getElem?_map] at hz
      cases hb : ks[i]? with
      | none => rw [hb] at hz; exact nomatch hz
      | some b =>
        rw [hb] at hz
        cases hz
        show _ ∧ _
        refine ⟨rfl, ?_⟩
        unfold tYes
        show (if (true : Bool) = true then _ else _)
        rw [if_pos rfl]
        walk_at "rd"
        have nb : ¬ b ∈ nl.map (·.1) := fun hm => by
          rw [hk] at hm
          have asc := ok.asc
          rw [← List.take_append_drop i ks] at asc
          have hd : b ∈ ks.drop i := List.mem_of_getElem? (i := 0) (by rw [List.getElem?_drop]; exact hb)
          have z := (List.pairwise_append.mp asc).2.2 b hm b hd
          rw [lt_irr] at z
          exact nomatch z
        have ln : nl.length ≤ 9 := by
          have z : (nl.map (·.1)).length = _ := congrArg List.length hk
          rw [List.length_map, List.length_take] at z
          omega
        refine ⟨q, ys, b, rfl, e4 _ _ wa3.ts, wa3.ta.ex e4, by omega, fun es pm so r H6 e6 hr6 => ?_⟩
        refine ⟨nl.map ent, Sum.inr b, rfl, e6 _ _ hn, sz_lt (by rw [List.length_map]; omega), (e4.trans e6).mut hD, nl ++ [(b, r, es)], ?_, ?_, fun t ht => ?_⟩
        · rw [putK_new _ (ent_none nb), List.map_append]
          exact upd_same
        · rw [List.map_append, hk, List.take_add_one, hb]
          rfl
        · have hn6 := e6 _ _ hn
          rcases List.mem_append.mp ht with z | z
          · have y := (near t z).ex e6
            have ne : t.2.1 ≠ D := fun e => by
              have y1 := y.at_
              rw [e, hn6] at y1
              exact nomatch y1
            exact ⟨(upd_ne ne).trans y.at_, y.pm, y.so⟩
          · rw [List.mem_singleton.mp z]
            have ne : r ≠ D := fun e => by
              rw [e, hn6] at hr6
              exact nomatch hr6
            exact ⟨(upd_ne ne).trans hr6, pm, so⟩
    · obtain ⟨e4, nl, hn, hk, near⟩ := hP
      walk_at "rd"
      have a4 := e4 _ _ a3
      refine ⟨a, C, dx, _, rfl, a4, WK.cls, WK.nn, by simp, ?_⟩
      have EE := (E3.trans e4).mut (o := .ins C dx (putF "_near" (.ref D) [("_places", .ref p), ("_ties", .ref q)])) ha0
      have Da : D ≠ a := fun e => by
        rw [e, a3] at hD
        exact nomatch hD
      rw [List.length_map, List.take_length] at hk
      refine k _ EE ⟨ok, dx, p, q, D, nl, upd_same, wa.ex EE, (upd_ne Da).trans hn, hk, fun t ht => ?_⟩
      have y := near t ht
      have ne : t.2.1 ≠ a := fun e => by
        have y1 := y.at_
        rw [e, a4] at y1
        exact nomatch y1
      exact ⟨(upd_ne ne).trans y.at_, y.pm, y.so⟩
end
end OwW

/-! sorted(set of texts): ascending. -/
namespace OwT
open PySem PySem.Spec PyProof.Rows PySem.Froz L2
section
variable {X : Cx} {pins : List (Addr × Obj)} {σ : L2.St} {H : Hp} {s : Shared}
def rSortTxS (X : Cx) : List V → Hp → VK → Prop := fun vs H Q => ∃ (a : Addr) (l : List Str), vs = [.ref a] ∧ H a = some (TxO X.prog X.w a l) ∧ l.length < 64 ∧ ∀ (ys : List Str) p, ys.Perm l → sortedS ys = true → H p = none → Q (.ref p) (upd H p (.lst (ys.map V.str)))
theorem call_sortTxS (hc : X.calm = true) : CallR X (.builtin "sorted") (rSortTxS X) := by
  intro pins s σ H vs us Q I r h
  obtain ⟨a, l, rfl, ha, h64, q⟩ := h
  rw [Vals.ref1 r]
  obtain ⟨D, g, F, nd, rs, ld⟩ := txO_at I ha
  obtain ⟨es, ep, t⟩ := D
  have z : es.size = l.length := F.sz
  have fb : es.size < scanBound := by unfold scanBound; omega
  refine Calls.call_function_entry kind_sorted plain_sorted entry_sorted (args_sorted1 _) ?_
  unfold Builtin.«sorted»
  refine wpAny_bind (m := checkCount "sorted" 1 1 _) (wpAny_pure (wpAny_bind (collect_set (A := X.A.in1) (I.ok.hd hc) ⟨_, g, rfl, rfl⟩ F.fit fb rs ld fun s1 ws k1 hz g1 o1 pm => ?_)))
  have allS : ∀ v ∈ ws, ∃ k u, v = .str k u := fun v hv => by
    obtain ⟨e, he, ev⟩ := List.mem_map.mp (pm.mem_iff.mp hv)
    obtain ⟨⟨k, hk, _⟩, _⟩ := F.el e he
    obtain ⟨u, hu⟩ := is_of hk
    exact ⟨k, u, ev ▸ hu⟩
  have hS := strsAre_all allS
  have wl : ws.length = l.length := by rw [pm.length_eq, List.length_map, Array.length_toList]; exact z
  have pl : (ws.map PyProof.Rows.strOf).Perm l := perm_of_sub nd (fun k hk => by
    obtain ⟨e, he, hp⟩ := (F.mem k).mp hk
    obtain ⟨u, hu⟩ := is_of hp
    exact List.mem_map.mpr ⟨e.2, pm.mem_iff.mpr (List.mem_map.mpr ⟨e, he, rfl⟩), by rw [hu]; rfl⟩) (by rw [List.length_map, wl]; exact Nat.le_refl _)
  have ll : ws.length < 64 := by rw [wl]; exact h64
  refine wpAny_bind (wpAny_newList ?_ (by rw [sizeLine_eq]; omega))
  have hoL : (s1.heap.push (seqObj "list" ws.toArray 0)).get? s1.heap.objs.size = some (seqObj "list" ws.toArray 0) := Heap.get?_push_size _ rfl
  refine wpAny_bind (wpAny_holding (wpAny_call_entry slot_list_sort ⟨_, hoL, rfl⟩ entry_list_sort (list_sort_treeK strKind_oneLt hoL hS.keysOf (fun v1 v2 rest e => keyKind_strs (by rw [← e]; exact hS)) ll fun st hp hs => ?_) (args_list_sort _)))
  obtain ⟨ys, y1, y2, y3⟩ := sorted_out_str hS hp hs
  obtain ⟨c, hcc⟩ := sortedHeap_at (vs := ws) (out := (arrOf st).map (·.2)) hoL
  have hn : H s1.heap.objs.size = none := I.hok.fresh hz
  have yl : (ys.map V.str).length ≤ sizeLine := by rw [List.length_map, y2.length_eq, List.length_map, wl, sizeLine_eq]; omega
  have keep : ∀ b o, s.heap.get? b = some o → (sortedHeap (s1.heap.push (seqObj "list" ws.toArray 0)) s1.heap.objs.size ws ((arrOf st).map (·.2))).get? b = some o := fun b o e => by
    have e1 := k1 b o e
    have lt := Heap.lt_size e1
    rw [sortedHeap_old (Nat.ne_of_lt lt) (by rw [size_push']; exact Nat.lt_succ_of_lt lt)]
    exact Heap.get?_push_of_some _ e1
  obtain ⟨h1, gg, dd, tk, os⟩ := s1
  dsimp only at g1 o1
  subst g1 o1
  have J : Inv X pins σ (upd H h1.objs.size (.lst (ys.map V.str))) { s with heap := sortedHeap (h1.push (seqObj "list" ws.toArray 0)) h1.objs.size ws ((arrOf st).map (·.2)), gens := s.gens, drawn := dd, toks := tk } :=
    I.call (ch := []) (Un.laid keep hz hn) (I.hok.laid keep hz ⟨yl, _, c, vals_of_strs y1, hcc⟩) I.bare (fun _ z => nomatch z)
  exact ⟨_, rfl, wpAny_pure ⟨_, rfl, .ref h1.objs.size, _, J, rfl, q ys _ (y2.trans pl) y3 hn⟩⟩
end
end OwT


namespace OwW
open PySem PyProof.Rows L2 L2H OwX Rd Evl
def leP (p q : Str × Str) : Bool := !OwL2.ltP q p
theorem ltP_irr (a : Str × Str) : OwL2.ltP a a = false := by
  unfold OwL2.ltP
  rw [if_pos rfl]
  exact lt_irr _
theorem ltP_tot {a b : Str × Str} (h : OwL2.ltP a b = false) (n : a ≠ b) : OwL2.ltP b a = true := by
  unfold OwL2.ltP at h ⊢
  by_cases e : a.1 = b.1
  · rw [if_pos e] at h
    rw [if_pos e.symm]
    exact lt_tot h fun z => n (Prod.ext e z)
  · rw [if_neg e] at h
    rw [if_neg (fun z => e z.symm)]
    exact lt_tot h e
theorem leP_lt {a b : Str × Str} (h : leP a b = true) (n : a ≠ b) : OwL2.ltP a b = true := by
  unfold leP at h
  rw [Bool.not_eq_true'] at h
  exact ltP_tot h fun z => n z.symm
theorem ltP_le {a b : Str × Str} (h : OwL2.ltP a b = true) : leP a b = true := by
  unfold leP
  rw [Bool.not_eq_true']
  cases c : OwL2.ltP b a with
  | false => rfl
  | true =>
    have z := ltP_tr h c
    rw [ltP_irr] at z
    exact nomatch z
theorem leP_tr {a b c : Str × Str} (h : leP a b = true) (g : leP b c = true) : leP a c = true := by
  by_cases e : a = b
  · rw [e]
    exact g
  · by_cases f : b = c
    · rw [← f]
      exact h
    · exact ltP_le (ltP_tr (leP_lt h e) (leP_lt g f))
theorem leP_total (a b : Str × Str) : (leP a b || leP b a) = true := by
  by_cases e : a = b
  · rw [e]
    show ((!OwL2.ltP b b) || (!OwL2.ltP b b)) = true
    rw [ltP_irr]
    rfl
  · cases c : OwL2.ltP a b with
    | true => rw [ltP_le c]; rfl
    | false => rw [ltP_le (ltP_tot c e), Bool.or_true]
def prS (p : Addr × List Str) : Str × Str := (p.2.getD 0 "", p.2.getD 1 "")
theorem le_pr {p q : Addr × List Str} (hp : p.2.length = 2) (hq : q.2.length = 2) : OwP.le p q = leP (prS p) (prS q) := by
  obtain ⟨a, l⟩ := p
  obtain ⟨b, m⟩ := q
  match l, hp, m, hq with
  | [x, y], _, [u, v], _ =>
    show (!PySem.W.dataLt (.tuple [.str u, .str v]) (.tuple [.str x, .str y])) = _
    rw [OwL2.dataLt_pairS (u, v) (x, y)]
    rfl
end OwW

namespace OwW
open PySem PyProof.Rows L2 L2H OwX Rd Evl
theorem pr_of {p : Addr × List Str} (h : p.2.length = 2) : p.2 = [(prS p).1, (prS p).2] := by
  obtain ⟨a, l⟩ := p
  match l, h with
  | [x, y], _ => rfl
theorem sort_pairs {L0 L2 xs : List (Addr × List Str)} (h2 : ∀ p ∈ L0, p.2.length = 2) (O : OwP.Of L0 L2) (nd : (L2.map (·.2)).Nodup) (px : xs.Perm L2) :
    ((xs.mergeSort OwP.le).map prS).Pairwise (fun a b => OwL2.ltP a b = true) ∧ ∀ t, t ∈ (xs.mergeSort OwP.le).map prS ↔ t ∈ L0.map prS := by
  have l2 : ∀ p ∈ L2, p.2.length = 2 := fun p hp => h2 p (O.sub p hp)
  have lx : ∀ p ∈ xs, p.2.length = 2 := fun p hp => l2 p (px.mem_iff.mp hp)
  have e : (xs.mergeSort OwP.le).map prS = (xs.map prS).mergeSort leP := PySem.W.sort_maps prS fun a ha b hb => le_pr (lx a ha) (lx b hb)
  have pw : ((xs.map prS).mergeSort leP).Pairwise (fun a b => leP a b = true) := PySem.W.sort_pairwise (le := leP) ⟨fun a b c h g => leP_tr h g, fun a b => Bool.or_eq_true_iff.mp (leP_total a b)⟩ _
  have n2 : (L2.map prS).Nodup := by
    have z : L2.Pairwise (fun a b => a.2 ≠ b.2) := List.pairwise_map.mp nd
    refine List.pairwise_map.mpr (z.imp_of_mem fun {a b} ha hb hne hpr => hne ?_)
    rw [pr_of (l2 a ha), pr_of (l2 b hb), hpr]
  have nx : ((xs.map prS).mergeSort leP).Nodup := ((List.mergeSort_perm (xs.map prS) leP).symm.nodup ((px.map prS).symm.nodup n2))
  rw [e]
  refine ⟨?_, fun t => ?_⟩
  · refine (List.Pairwise.and pw nx).imp fun {a b} h => leP_lt h.1 h.2
  · rw [(List.mergeSort_perm (xs.map prS) leP).mem_iff, (px.map prS).mem_iff]
    constructor
    · intro h
      obtain ⟨p, hp, rfl⟩ := List.mem_map.mp h
      exact List.mem_map.mpr ⟨p, O.sub p hp, rfl⟩
    · intro h
      obtain ⟨p, hp, rfl⟩ := List.mem_map.mp h
      obtain ⟨q, hq, e2⟩ := List.mem_map.mp (O.all p hp)
      refine List.mem_map.mpr ⟨q, hq, ?_⟩
      unfold prS
      rw [e2]
end OwW


namespace OwW
open PySem PyProof.Rows L2 L2H OwX Rd Evl
abbrev sTie : Stmt := top 47
abbrev sPlain : Stmt := top 48
abbrev NPl : List Str := ["_law_places", "_law_ties", "_law_found", "_law_a", "_law_b"]
structure BltM (mg : Str → Option Value) : Prop where
  min : mg "min" = none
  max : mg "max" = none
  list : mg "list" = none
  sorted : mg "sorted" = none
  set : mg "set" = none
  tuple : mg "tuple" = none
  range : mg "range" = none
  len : mg "len" = none
/-- the ends in their order -/
def norm (t : Str × Str) : Str × Str := (OwL2.minS t.1 t.2, OwL2.maxS t.1 t.2)
def spTie : Sp := fun vs H Q _ => ∃ a b : Str, vs = [.str a, .str b] ∧ ∀ p H', Ex H H' → H' p = some (.tup [V.str (norm (a, b)).1, V.str (norm (a, b)).2]) → H p = none → Q (.ref p) H'
/-- a plain web at d -/
structure PlainAt (H : Hp) (d : Addr) (ks : List Str) (zs : TL) : Prop where
  at_ : ∃ kp tp : Addr, H d = some (.dK [(Sum.inr "places", .ref kp), (Sum.inr "ties", .ref tp)]) ∧ H kp = some (.lst (ks.map V.str)) ∧ H tp = some (.lst (rf zs))
  ta : TA H zs
theorem PlainAt.ex {H H' : Hp} {d : Addr} {ks : List Str} {zs : TL} (w : PlainAt H d ks zs) (e : Ex H H') : PlainAt H' d ks zs := by
  obtain ⟨kp, tp, h1, h2, h3⟩ := w.at_
  exact ⟨⟨kp, tp, e _ _ h1, e _ _ h2, e _ _ h3⟩, w.ta.ex e⟩
/-- the ends of ties, one by one -/
def foundL (ts : List (Str × Str)) : List Str := ts.flatMap fun t => [t.1, t.2]
theorem found_len : ∀ ts : List (Str × Str), (foundL ts).length = 2 * ts.length
  | [] => rfl
  | t :: ts => by
    have z := found_len ts
    unfold foundL at z ⊢
    rw [List.flatMap_cons, List.length_append, z]
    show 2 + 2 * ts.length = 2 * (ts.length + 1)
    omega
def spPlain : Sp := fun vs H Q _ => ∃ (b c : Addr) (ys : TL), vs = [.ref b, .ref c] ∧ H b = some (.lst []) ∧ H c = some (.lst (rf ys)) ∧ TA H ys ∧ ys.length ≤ 30 ∧
  ∀ d H' (ks : List Str) (zs : TL), Ex H H' → PlainAt H' d ks zs → ks.Pairwise (fun a b => OwL2.lt a b = true) → (∀ k, k ∈ ks ↔ ∃ t ∈ ys.map (·.2), k = t.1 ∨ k = t.2) → (zs.map (·.2)).Pairwise (fun a b => OwL2.ltP a b = true) → (∀ t, t ∈ zs.map (·.2) ↔ t ∈ (ys.map (·.2)).map norm) → H d = none → Q (.ref d) H'
section
variable {P : Program} {w : World} {K : PySem.W.Frag} {mg : Str → Option Value} {base : Heap}
theorem scTie : FnScope ["_law_a", "_law_b"] ["_law_a", "_law_b"] (defScope sTie) := ⟨rfl, rfl, rfl, by decide +kernel, rfl, by decide +kernel, by decide +kernel⟩
theorem ok_tie {f : Addr} {fd : FuncData} (F : Fun K "_law_tie" "_law_tie" sTie f fd) (T : BltM mg) : FnOk P w K mg base CX0 1 f fd ["_law_a", "_law_b"] spTie := by
  have nd := scTie.nd
  refine F.ok scTie (fun vs H Q E h => ?_) (fun cdv A outer s H vs Q E hr h => ⟨_, (pss_one (ps_ret (pe_tup (pa_cons (pe_callB (OwL2.call_minS rfl) (by rfl) T.min (by decide +kernel) (pa_cons (pv 0) (pa_cons (pv 1) pa_nil))) (pa_cons (pe_callB (OwL2.call_maxS rfl) (by rfl) T.max (by decide +kernel) (pa_cons (pv 0) (pa_cons (pv 1) pa_nil))) pa_nil))))), ?_⟩)
  · obtain ⟨a, b, rfl, _⟩ := h
    rfl
  · obtain ⟨a, b, rfl, k⟩ := h
    walk_at "rd"
    refine ⟨_, _, rfl, ?_⟩
    walk_at "rd"
    refine ⟨_, _, rfl, ?_⟩
    walk_at "rd"
    refine ⟨small64 (n := 2) (by decide), fun p hp => ?_⟩
    exact k p _ (Ex.new hp) upd_same hp
theorem scPlain : FnScope NPl ["_law_places", "_law_ties"] (defScope sPlain) := ⟨rfl, rfl, rfl, by decide +kernel, rfl, by decide +kernel, by decide +kernel⟩
theorem ok_plain {f g : Addr} {fd gd : FuncData} (F : Fun K "_law_plain" "_law_plain" sPlain f fd) (FT : Fun K "_law_tie" "_law_tie" sTie g gd) (gT : mg "_law_tie" = some (.ref g)) (GT : FnOk P w K mg base CX0 1 g gd ["_law_a", "_law_b"] spTie) (T : BltM mg) : FnOk P w K mg base CX0 2 f fd ["_law_places", "_law_ties"] spPlain := by
  have nd := scPlain.nd
  have bT : Binds K gd ["_law_a", "_law_b"] [] := FT.binds fun _ _ _ _ _ _ us hl => match us, hl with | [_, _], _ => rfl
  refine F.ok scPlain (fun vs H Q E h => ?_) (fun cdv A outer s H vs Q E hr h => ⟨_, (pss_cons (ps_set (i := 2) nd rfl (Or.inl rfl) (pe_callTy call_list_of (by rfl) T.list (by decide +kernel) (pa_cons (pv 0) pa_nil)))
    (pss_cons (ps_for PassesOwn.never rfl (pi_list (pv 1)) (pg_tup rfl (pgs_cons (pg_name (i := 3) nd rfl (Or.inl rfl)) (pgs_cons (pg_name (i := 4) nd rfl (Or.inl rfl)) pgs_nil))) (pss_one (ps_expr (pe_bm PySem.F.plainAttrs_list PySem.F.slot_list_extend PySem.F.type_list_extend mt_extend (pv 2) (pa_cons (pe_lstN (pa_cons (pv 3) (pa_cons (pv 4) pa_nil))) pa_nil)))))
    (pss_one (ps_ret (pe_disp (pps_cons pe_str (pe_callB (OwT.call_sortTxS rfl) (by rfl) T.sorted (by decide +kernel) (pa_cons (pe_callTy (OwT.call_setTx rfl) (by rfl) T.set (by decide +kernel) (pa_cons (pv 2) pa_nil)) pa_nil)) (pps_cons pe_str (pe_callB (OwP.call_sortST rfl hr.units) (by rfl) T.sorted (by decide +kernel) (pa_cons (pe_callTy (OwP.call_setTp rfl hr.units) (by rfl) T.set (by decide +kernel) (pa_cons (pe_lc (own := [("_law_a", 3), ("_law_b", 4)]) (g := gTup K 2 (gCons (gName 3) (gCons (gName 4) gNil))) (tt := tYes) rfl nd (pi_list (pv 1)) (blkOk_by (own := [("_law_a", 3), ("_law_b", 4)]) (N := NPl) (sc := defScope sPlain) (by decide +kernel)) (fun _ _ _ _ _ => (pg_tup rfl (pgs_cons (pg_name (i := 3) nd rfl (Or.inl rfl)) (pgs_cons (pg_name (i := 4) nd rfl (Or.inl rfl)) pgs_nil)))) (fun _ _ _ _ _ => pts_nil) (fun _ _ _ _ _ => (pe_call GT (hr.mono (by decide)) (by rfl) gT FT.kp bT .nil pass0 (pa_cons (pv 3) (pa_cons (pv 4) pa_nil))))) pa_nil)) pa_nil)) pps_nil)) (by rfl) (by rfl) (fun z => by cases z) (by decide)))))), ?_⟩)
  · obtain ⟨b, c, ys, rfl, _⟩ := h
    rfl
  · obtain ⟨b, c, ys, rfl, hb, hc, ta, hl, k⟩ := h
    walk_at "rd"
    refine ⟨b, [], rfl, Or.inl (SqL.of hb), fun L hL => ?_⟩
    have e0 : Ex H (upd H L (.lst [])) := Ex.new hL
    have l0 : (upd H L (.lst [])) L = some (.lst ((foundL ((ys.map (·.2)).take 0)).map V.str)) := upd_same
    generalize upd H L (.lst []) = H1 at e0 l0 ⊢
    walk_at "rd"
    with_reducible refine Rd.for' ?_
    refine ⟨_, rfl, c, rfl, ⟨_, SqL.of (e0 _ _ hc)⟩, ?_⟩
    refine for_it (walk_list (xs := rf ys)) (fun i σ H' => ∃ x y : Option V, σ = [some (.ref b), some (.ref c), some (.ref L), x, y] ∧ Ex H H' ∧ H' L = some (.lst ((foundL ((ys.map (·.2)).take i)).map V.str))) ⟨none, none, rfl, e0, l0⟩ (fun i σ H' _ hP => ?_) (fun i z σ H3 H4 hi hP hY => ?_) (fun σ H3 hP => ?_)
    · obtain ⟨_, _, _, e1, _⟩ := hP
      exact SqL.of (e1 _ _ hc)
    · obtain ⟨x, y, rfl, e1, l1⟩ := hP
      obtain ⟨rfl, hz⟩ := hY
      rw [List.getElem?_map] at hz
      cases ht : ys[i]? with
      | none => rw [ht] at hz; exact nomatch hz
      | some t =>
        rw [ht] at hz
        cases hz
        have tm := ta.ex e1 t (List.mem_of_getElem? ht)
        refine ⟨t.1, [.str t.2.1, .str t.2.2], rfl, SqT.of tm, rfl, .str t.2.1, [.str t.2.2], rfl, ?_⟩
        walk_at "rd"
        refine ⟨.str t.2.2, [], rfl, ?_⟩
        walk_at "rd"
        refine ⟨rfl, ?_⟩
        walk_at "rd"
        refine ⟨_, rfl, Or.inl ⟨rfl, _, SqL.of l1⟩, ?_⟩
        walk_at "rd"
        refine ⟨small64 (n := 2) (by decide), fun M hM hMm => ?_⟩
        have nLM : L ≠ M := fun e => by
          rw [← e, l1] at hM
          exact nomatch hM
        have fl : (foundL ((ys.map (·.2)).take i)).length ≤ 60 := by
          have z := found_len ((ys.map (·.2)).take i)
          rw [List.length_take, List.length_map] at z
          omega
        have st : foundL ((ys.map (·.2)).take (i + 1)) = foundL ((ys.map (·.2)).take i) ++ [t.2.1, t.2.2] := by
          rw [List.take_add_one, List.getElem?_map, ht]
          unfold foundL
          rw [List.flatMap_append]
          rfl
        refine ⟨L, M, _, _, rfl, rfl, (upd_ne nLM).trans l1, upd_same, ?_, ?_⟩
        · rw [List.length_map]
          exact small64 (n := _) (by show (foundL ((ys.map (·.2)).take i)).length + 2 < 64; omega)
        · refine ⟨_, _, rfl, (e1.trans (Ex.new hM)).mut hL, ?_⟩
          rw [st, List.map_append]
          exact upd_same
    · obtain ⟨x, y, rfl, e1, l1⟩ := hP
      rw [List.length_map, ← List.length_map (as := ys) (·.2), List.take_length] at l1
      walk_at "rd"
      have fl : (foundL (ys.map (·.2))).length ≤ 60 := by
        have z := found_len (ys.map (·.2))
        rw [List.length_map] at z
        omega
      refine fun d hd => ?_
      walk_at "rd"
      have l2 : (upd H3 d (.dK [])) L = some (.lst ((foundL (ys.map (·.2))).map V.str)) := Ex.new hd _ _ l1
      have hdd : (upd H3 d (.dK [])) d = some (.dK []) := upd_same
      have e2 : Ex H (upd H3 d (.dK [])) := e1.trans (Ex.new hd)
      generalize upd H3 d (.dK []) = H4 at l2 hdd e2 ⊢
      refine ⟨_, rfl, L, foundL (ys.map (·.2)), rfl, Or.inl (SqL.of l2), by omega, fun S hS => ?_⟩
      walk_at "rd"
      have ol : (OwT.once (foundL (ys.map (·.2)))).length < 64 := by
        have z := OwT.once_len (foundL (ys.map (·.2)))
        omega
      refine ⟨S, OwT.once (foundL (ys.map (·.2))), rfl, upd_same, ol, fun ks kp pm so hkp => ?_⟩
      have kpw : ks.Pairwise (fun a b => OwL2.lt a b = true) := ascB_pw (r := OwL2.lt) (fun h g => lt_tr h g) (asc_sorted so (pm.symm.nodup (OwT.once_nodup _)))
      have kmem : ∀ k, k ∈ ks ↔ ∃ t ∈ ys.map (·.2), k = t.1 ∨ k = t.2 := fun k => by
        rw [pm.mem_iff, OwT.once_mem]
        unfold foundL
        rw [List.mem_flatMap]
        simp only [List.mem_cons, List.not_mem_nil, or_false]
      have e3 : Ex H4 (upd (upd H4 S (OwT.TxO P w S (OwT.once (foundL (ys.map (·.2)))))) kp (.lst (ks.map V.str))) := (Ex.new hS).trans (Ex.new hkp)
      have k5 : (upd (upd H4 S (OwT.TxO P w S (OwT.once (foundL (ys.map (·.2)))))) kp (.lst (ks.map V.str))) kp = some (.lst (ks.map V.str)) := upd_same
      show tPairs _ _ (upd (upd H4 S (OwT.TxO P w S (OwT.once (foundL (ys.map (·.2)))))) kp (.lst (ks.map V.str))) _
      generalize upd (upd H4 S (OwT.TxO P w S (OwT.once (foundL (ys.map (·.2)))))) kp (.lst (ks.map V.str)) = H5 at e3 k5 ⊢
      unfold tPairs
      walk_at "rd"
      refine Rd.lcm' ?_
      refine ⟨_, rfl, c, rfl, ⟨_, SqL.of (e3 _ _ (e2 _ _ hc))⟩, fun D hD => ?_⟩
      refine lc_it (walk_list (xs := rf ys)) (fun i H' => Ex H5 H' ∧ ∃ zs : TL, H' D = some (.lst (rf zs)) ∧ zs.map (·.2) = ((ys.map (·.2)).take i).map norm ∧ TA H' zs) ⟨Ex.new hD, [], upd_same, rfl, fun _ h => nomatch h⟩ (fun i H' _ hP => SqL.of (hP.1 _ _ (e3 _ _ (e2 _ _ hc)))) (fun i z Ha Hb hi hP hY => ?_) (fun H6 hP => ?_)
      · obtain ⟨e5, zs, hz5, hzm, taz⟩ := hP
        obtain ⟨rfl, hz⟩ := hY
        rw [List.getElem?_map] at hz
        cases ht : ys[i]? with
        | none => rw [ht] at hz; exact nomatch hz
        | some t =>
          rw [ht] at hz
          cases hz
          have tm := ta.ex ((e2.trans e3).trans e5) t (List.mem_of_getElem? ht)
          refine ⟨t.1, [.str t.2.1, .str t.2.2], rfl, SqT.of tm, rfl, .str t.2.1, [.str t.2.2], rfl, ?_⟩
          walk_at "rd"
          refine ⟨.str t.2.2, [], rfl, ?_⟩
          walk_at "rd"
          refine ⟨rfl, ?_⟩
          show _ ∧ _
          refine ⟨rfl, ?_⟩
          unfold tYes
          show (if (true : Bool) = true then _ else _)
          rw [if_pos rfl]
          walk_at "rd"
          have zl : zs.length ≤ 30 := by
            have z : (zs.map (·.2)).length = _ := congrArg List.length hzm
            rw [List.length_map, List.length_map, List.length_take, List.length_map] at z
            omega
          refine ⟨t.2.1, t.2.2, rfl, fun r H7 e7 hr7 hrn => ⟨rf zs, e7 _ _ hz5, sz_lt (by rw [List.length_map]; omega), (e5.trans e7).mut hD, zs ++ [(r, norm t.2)], ?_, ?_, fun z hz => ?_⟩⟩
          · show _ = some (HO.lst (List.map (fun p => V.ref p.1) (zs ++ [(r, norm t.2)])))
            rw [List.map_append]
            exact upd_same
          · rw [List.map_append, hzm, List.take_add_one, List.getElem?_map, ht, List.map_append]
            rfl
          · have hDD := e7 _ _ hz5
            have key : H7 z.1 = some (.tup [V.str z.2.1, V.str z.2.2]) := by
              rcases List.mem_append.mp hz with y | y
              · exact e7 _ _ (taz z y)
              · rw [List.mem_singleton.mp y]
                exact hr7
            have ne : z.1 ≠ D := fun e => by
              rw [e, hDD] at key
              exact nomatch key
            exact (upd_ne ne).trans key
      · obtain ⟨e5, zs, hz5, hzm, taz⟩ := hP
        walk_at "rd"
        rw [List.length_map, ← List.length_map (as := ys) (·.2), List.take_length] at hzm
        have zl : zs.length ≤ 30 := by
          have z : (zs.map (·.2)).length = _ := congrArg List.length hzm
          rw [List.length_map, List.length_map, List.length_map] at z
          omega
        have L0r : (zs.map fun z => ((z.1, [z.2.1, z.2.2]) : Addr × List Str)).map (fun p => V.ref p.1) = rf zs := by
          rw [List.map_map]
          rfl
        have L0p : (zs.map fun z => ((z.1, [z.2.1, z.2.2]) : Addr × List Str)).map prS = zs.map (·.2) := by
          rw [List.map_map]
          rfl
        have L02 : ∀ p ∈ (zs.map fun z => ((z.1, [z.2.1, z.2.2]) : Addr × List Str)), p.2.length = 2 ∧ H6 p.1 = some (.tup (p.2.map V.str)) := fun p hp => by
          obtain ⟨z, hz, rfl⟩ := List.mem_map.mp hp
          exact ⟨rfl, taz z hz⟩
        have L0l : (zs.map fun z => ((z.1, [z.2.1, z.2.2]) : Addr × List Str)).length ≤ 60 := by
          rw [List.length_map]
          omega
        generalize (zs.map fun z => ((z.1, [z.2.1, z.2.2]) : Addr × List Str)) = L0 at L0r L0p L02 L0l
        refine ⟨D, L0, rfl, Or.inl (SqL.of (by rw [L0r]; exact hz5)), fun p hp => SqT.of (L02 p hp).2, L0l, fun S2 L2 of nd2 hS2 => ?_⟩
        walk_at "rd"
        refine ⟨S2, L2, 2, rfl, upd_same, fun p hp => SqT.of (Ex.new hS2 _ _ (L02 p (of.sub p hp)).2), by decide, fun p hp => (L02 p (of.sub p hp)).1, fun xs tp px htp => ?_⟩
        have hd6 : H6 d = some (.dK []) := e5 _ _ (e3 _ _ hdd)
        have E8 : Ex H6 (upd (upd H6 S2 (OwP.TpO P w S2 L2)) tp (.lst ((xs.mergeSort OwP.le).map fun p => V.ref p.1))) := (Ex.new hS2).trans (Ex.new htp)
        have t8 : (upd (upd H6 S2 (OwP.TpO P w S2 L2)) tp (.lst ((xs.mergeSort OwP.le).map fun p => V.ref p.1))) tp = some (.lst ((xs.mergeSort OwP.le).map fun p => V.ref p.1)) := upd_same
        show tPairs [] _ (upd (upd H6 S2 (OwP.TpO P w S2 L2)) tp (.lst ((xs.mergeSort OwP.le).map fun p => V.ref p.1))) _
        generalize upd (upd H6 S2 (OwP.TpO P w S2 L2)) tp (.lst ((xs.mergeSort OwP.le).map fun p => V.ref p.1)) = H8 at E8 t8 ⊢
        unfold tPairs
        refine ⟨E8 _ _ hd6, [(Sum.inr "places", .ref kp), (Sum.inr "ties", .ref tp)], rfl, by simp, ?_⟩
        have hdn : H d = none := by
          cases c : H d with
          | none => rfl
          | some o =>
            have z := e1 _ _ c
            rw [hd] at z
            exact nomatch z
        obtain ⟨pw, mem⟩ := sort_pairs (fun p hp => (L02 p hp).1) of nd2 px
        have fin : (xs.mergeSort OwP.le).map prS = ((xs.mergeSort OwP.le).map fun p => (p.1, prS p)).map (·.2) := by
          rw [List.map_map]
          rfl
        have d8 := E8 _ _ hd6
        have k8 := E8 _ _ (e5 _ _ k5)
        have nk : kp ≠ d := fun e => by
          rw [e, d8] at k8
          exact nomatch k8
        have nt : tp ≠ d := fun e => by
          rw [e, d8] at t8
          exact nomatch t8
        refine k d _ ks ((xs.mergeSort OwP.le).map fun p => (p.1, prS p)) ((e2.trans (e3.trans (e5.trans E8))).mut hdn) ⟨⟨kp, tp, upd_same, (upd_ne nk).trans k8, (upd_ne nt).trans ?_⟩, fun z hz => ?_⟩ kpw kmem (by rw [← fin]; exact pw) (fun t => by rw [← fin, mem t, L0p, hzm]) hdn
        · rw [t8]
          show _ = some (HO.lst (List.map (fun p => V.ref p.1) ((xs.mergeSort OwP.le).map fun p => (p.1, prS p))))
          rw [List.map_map]
          rfl
        · obtain ⟨p, hp, rfl⟩ := List.mem_map.mp hz
          have pl := of.sub p (px.mem_iff.mp ((List.mergeSort_perm xs OwP.le).mem_iff.mp hp))
          have y := E8 _ _ (L02 p pl).2
          rw [pr_of (L02 p pl).1] at y
          have ne : p.1 ≠ d := fun e => by
            rw [e, d8] at y
            exact nomatch y
          exact (upd_ne ne).trans y
end
end OwW


namespace OwW
open PySem PyProof.Rows L2 L2H OwX Rd Evl
abbrev sLNames : Stmt := top 52
abbrev sPairs : Stmt := top 50
abbrev NPa : List Str := ["_law_places", "_law_found", "_law_at", "_law_other"]
def names14 : List Str := ["a", "b", "c", "d", "e", "f", "has", "home", "owes", "ra", "tie", "zz", "zzzzzzzz", "ab"]
theorem names14_ok : (∀ k ∈ names14, nameB k = true) := by
  have z : names14.all nameB = true := by decide +kernel
  exact List.all_eq_true.mp z
theorem names14_nd : names14.Nodup := by decide +kernel
def spLNames : Sp := fun vs H Q _ => vs = [] ∧ ∀ p H', Ex H H' → H' p = some (.lst (names14.map V.str)) → H p = none → Q (.ref p) H'
/-- a tie of two of ks -/
def Made (ks : List Str) (t : Str × Str) : Prop := ∃ a b, a ∈ ks ∧ b ∈ ks ∧ a ≠ b ∧ t = norm (a, b)
theorem cut_drop (xs : List V) {i : Nat} (h : i < xs.length) : cutV xs (some (0 + (i : Int) + 1)) none = xs.drop (i + 1) := by
  unfold cutV
  have e1 : HT.sIx xs.length 0 (some (0 + (i : Int) + 1)) = i + 1 := by
    have c : (0 + (i : Int) + 1) = ((i + 1 : Nat) : Int) := by omega
    rw [c, HT.sIx_nat]
    omega
  have e2 : HT.sIx xs.length xs.length none = xs.length := rfl
  rw [e1, e2]
  exact List.take_of_length_le (by rw [List.length_drop]; omega)
def spPairs : Sp := fun vs H Q _ => ∃ (b : Addr) (ks : List Str), vs = [.ref b] ∧ H b = some (.lst (ks.map V.str)) ∧ ks.length ≤ 9 ∧ ks.Nodup ∧
  ∀ p H' (zs : TL), Ex H H' → H' p = some (.lst (rf zs)) → TA H' zs → zs.length ≤ 100 → (∀ t ∈ zs.map (·.2), Made ks t) → H p = none → Q (.ref p) H'
section
variable {P : Program} {w : World} {K : PySem.W.Frag} {mg : Str → Option Value} {base : Heap}
theorem scLNames : FnScope [] [] (defScope sLNames) := ⟨rfl, rfl, rfl, by decide +kernel, rfl, by decide +kernel, by decide +kernel⟩
theorem ok_lnames {f : Addr} {fd : FuncData} (F : Fun K "_law_names" "_law_names" sLNames f fd) : FnOk P w K mg base CX0 1 f fd [] spLNames := by
  refine F.ok scLNames (fun vs H Q E h => ?_) (fun cdv A outer s H vs Q E hr h => ⟨_, (pss_one (ps_ret (pe_lstN (pa_cons pe_str (pa_cons pe_str (pa_cons pe_str (pa_cons pe_str (pa_cons pe_str (pa_cons pe_str (pa_cons pe_str (pa_cons pe_str (pa_cons pe_str (pa_cons pe_str (pa_cons pe_str (pa_cons pe_str (pa_cons pe_str (pa_cons pe_str pa_nil))))))))))))))))), ?_⟩)
  · obtain ⟨rfl, _⟩ := h
    rfl
  · obtain ⟨rfl, k⟩ := h
    walk_at "rd"
    refine ⟨small64 (n := 14) (by decide), fun p hp _ => ?_⟩
    exact k p _ (Ex.new hp) upd_same hp
theorem scPairs : FnScope NPa ["_law_places"] (defScope sPairs) := ⟨rfl, rfl, rfl, by decide +kernel, rfl, by decide +kernel, by decide +kernel⟩
theorem ok_pairs {f g : Addr} {fd gd : FuncData} (F : Fun K "_law_pairs" "_law_pairs" sPairs f fd) (FT : Fun K "_law_tie" "_law_tie" sTie g gd) (gT : mg "_law_tie" = some (.ref g)) (GT : FnOk P w K mg base CX0 1 g gd ["_law_a", "_law_b"] spTie) (T : BltM mg) : FnOk P w K mg base CX0 2 f fd ["_law_places"] spPairs := by
  have nd := scPairs.nd
  have bT : Binds K gd ["_law_a", "_law_b"] [] := FT.binds fun _ _ _ _ _ _ us hl => match us, hl with | [_, _], _ => rfl
  refine F.ok scPairs (fun vs H Q E h => ?_) (fun cdv A outer s H vs Q E hr h => ⟨_, (pss_cons (ps_set (i := 1) nd rfl (Or.inl rfl) (pe_lstN pa_nil))
    (pss_cons (ps_for PassesOwn.never rfl (pi_range1 rfl T.range (pa_cons (pe_callB call_len_seq (by rfl) T.len (by decide +kernel) (pa_cons (pv 0) pa_nil)) pa_nil)) (pg_name (i := 2) nd rfl (Or.inr rfl)) (pss_one (ps_expr (pe_bm PySem.F.plainAttrs_list PySem.F.slot_list_extend PySem.F.type_list_extend mt_extend (pv 1) (pa_cons (pe_lc (own := [("_law_other", 3)]) (g := gName 3) (tt := tYes) (te := tCall spTie [] E0 (tCons (tOp (rIxL K) (tVar 0) (tVar 2)) (tCons (tVar 3) tNil))) rfl nd (pi_list (pe_slice sl_list (pv 0) (po_some (pe_op op_add (pv 2) pe_int)) po_none)) (blkOk_by (own := [("_law_other", 3)]) (N := NPa) (sc := defScope sPairs) (by decide +kernel)) (fun _ _ _ _ _ => (pg_name (i := 3) nd rfl (Or.inl rfl))) (fun _ _ _ _ _ => pts_nil) (fun _ _ _ _ _ => (pe_call GT (hr.mono (by decide)) (by rfl) gT FT.kp bT .nil pass0 (pa_cons (pe_ix ix_list (pv 0) (pv 2) (fun _ _ => rfl)) (pa_cons (pv 3) pa_nil))))) pa_nil)))))
    (pss_one (ps_ret (pe_callB (OwP.cr_sortTp hr.units) (by rfl) T.sorted (by decide +kernel) (pa_cons (pv 1) pa_nil)))))), ?_⟩)
  · obtain ⟨b, ks, rfl, _⟩ := h
    rfl
  · obtain ⟨b, ks, rfl, hb, h9, kn, k⟩ := h
    walk_at "rd"
    refine ⟨small64 (n := 0) (by decide), fun G hG _ => ?_⟩
    have e0 : Ex H (upd H G (.lst [])) := Ex.new hG
    have g0 : (upd H G (.lst [])) G = some (.lst (rf [])) := upd_same
    generalize upd H G (.lst []) = H1 at e0 g0 ⊢
    walk_at "rd"
    with_reducible refine Rd.for' (Rd.irng' ?_)
    walk_at "rd"
    refine ⟨b, _, rfl, Or.inl (SqL.of (e0 _ _ hb)), ?_⟩
    walk_at "rd"
    rw [List.length_map]
    refine ⟨_, rfl, by omega, by omega, ?_⟩
    refine for_it walk_range (fun i σ H' => ∃ (x y : Option V) (zs : TL), σ = [some (.ref b), some (.ref G), x, y] ∧ Ex H H' ∧ H' G = some (.lst (rf zs)) ∧ TA H' zs ∧ zs.length ≤ 10 * i ∧ (∀ t ∈ zs.map (·.2), Made ks t)) ⟨none, none, [], rfl, e0, g0, (fun _ h => nomatch h), Nat.zero_le _, fun _ h => nomatch h⟩ (fun _ _ _ _ _ => trivial) (fun i z σ H3 H4 hi hP hY => ?_) (fun σ H3 hP => ?_)
    · obtain ⟨x, y, zs, rfl, e1, hz1, taz, zl, made⟩ := hP
      obtain ⟨rfl, rfl⟩ := hY
      have hi' : i < ks.length := hi
      walk_at "rd"
      refine ⟨_, rfl, Or.inl ⟨rfl, _, SqL.of hz1⟩, ?_⟩
      walk_at "rd"
      refine Rd.lcm' (Rd.ilist' ?_)
      walk_at "rd"
      refine ⟨_, rfl, ?_⟩
      walk_at "rd"
      refine ⟨_, rfl, ?_⟩
      walk_at "rd"
      refine ⟨_, rfl, ?_⟩
      walk_at "rd"
      have b4 := e1 _ _ hb
      obtain ⟨a, hka⟩ : ∃ a, ks[i]? = some a := ⟨_, List.getElem?_eq_getElem hi'⟩
      have ec : cutV (ks.map V.str) (some (0 + (i : Int) + 1)) none = (ks.drop (i + 1)).map V.str := by rw [cut_drop _ (by rw [List.length_map]; omega), List.map_drop]
      refine ⟨b, _, rfl, SqL.of b4, fun S hS => ⟨S, rfl, ⟨_, SqL.of upd_same⟩, ?_⟩⟩
      rw [ec]
      have e5 : Ex H4 (upd H4 S (.lst ((ks.drop (i + 1)).map V.str))) := Ex.new hS
      have s5 : (upd H4 S (.lst ((ks.drop (i + 1)).map V.str))) S = some (.lst ((ks.drop (i + 1)).map V.str)) := upd_same
      generalize upd H4 S (.lst ((ks.drop (i + 1)).map V.str)) = H5 at e5 s5 ⊢
      refine fun D hD => ?_
      refine lc_it (walk_list (xs := (ks.drop (i + 1)).map V.str)) (fun j H' => Ex H5 H' ∧ ∃ ws : TL, H' D = some (.lst (rf ws)) ∧ TA H' ws ∧ ws.length ≤ j ∧ ∀ t ∈ ws.map (·.2), Made ks t) ⟨Ex.new hD, [], upd_same, (fun _ h => nomatch h), Nat.zero_le _, fun _ h => nomatch h⟩ (fun j H' _ hP => SqL.of (hP.1 _ _ s5)) (fun j z Ha Hb hj hP hY => ?_) (fun H6 hP => ?_)
      · obtain ⟨e6, ws, hw6, taw, wl, mw⟩ := hP
        obtain ⟨rfl, hz⟩ := hY
        rw [List.getElem?_map, List.getElem?_drop] at hz
        cases hkb : ks[i + 1 + j]? with
        | none => rw [hkb] at hz; exact nomatch hz
        | some c =>
          rw [hkb] at hz
          cases hz
          have jl : j ≤ 9 := by
            rw [List.length_map, List.length_drop] at hj
            omega
          show _ ∧ _
          refine ⟨rfl, ?_⟩
          unfold tYes
          show (if (true : Bool) = true then _ else _)
          rw [if_pos rfl]
          walk_at "rd"
          have a0 : atI (ks.map V.str) (0 + (i : Int)) = some (.str a) := by
            unfold atI ixN
            rw [if_pos (by omega), if_pos (by rw [List.length_map]; omega)]
            show (ks.map V.str)[(0 + (i : Int)).toNat]? = _
            have c : (0 + (i : Int)).toNat = i := by omega
            rw [c, List.getElem?_map, hka]
            rfl
          show rIxL K (.ref b) (.int (0 + (i : Int))) Hb _
          refine Rd.ixl (SqL.of (e6 _ _ (e5 _ _ b4))) a0 ?_
          walk_at "rd"
          have nac : a ≠ c := fun e => by
            have z := (List.getElem?_inj hi' kn).mp (hka.trans (by rw [hkb, e]))
            omega
          refine ⟨a, c, rfl, fun r H7 e7 hr7 hrn => ⟨rf ws, e7 _ _ hw6, sz_lt (by unfold rf; rw [List.length_map]; omega), (e6.trans e7).mut hD, ws ++ [(r, norm (a, c))], ?_, fun z hz => ?_, ?_, fun t ht => ?_⟩⟩
          · unfold rf
            rw [List.map_append]
            exact upd_same
          · have hDD := e7 _ _ hw6
            have key : H7 z.1 = some (.tup [V.str z.2.1, V.str z.2.2]) := by
              rcases List.mem_append.mp hz with y | y
              · exact e7 _ _ (taw z y)
              · rw [List.mem_singleton.mp y]
                exact hr7
            have ne : z.1 ≠ D := fun e => by
              rw [e, hDD] at key
              exact nomatch key
            exact (upd_ne ne).trans key
          · rw [List.length_append]
            exact Nat.add_le_add_right wl 1
          · rw [List.map_append] at ht
            rcases List.mem_append.mp ht with y | y
            · exact mw t y
            · rw [List.mem_singleton.mp y]
              exact ⟨a, c, List.mem_of_getElem? hka, List.mem_of_getElem? hkb, nac, rfl⟩
      · obtain ⟨e6, ws, hw6, taw, wl, mw⟩ := hP
        rw [List.length_map, List.length_drop] at wl
        walk_at "rd"
        have g6 := e6 _ _ (e5 _ _ hz1)
        refine ⟨G, D, rf zs, rf ws, rfl, rfl, g6, hw6, ?_, ?_⟩
        · unfold rf
          rw [List.length_map, List.length_map]
          exact Nat.le_of_lt (sz_lt (by omega))
        · walk_at "rd"
          refine ⟨_, _, zs ++ ws, rfl, (e1.trans (e5.trans e6)).mut hG, ?_, fun z hz => ?_, ?_, fun t ht => ?_⟩
          · unfold rf
            rw [List.map_append]
            exact upd_same
          · have key : H6 z.1 = some (.tup [V.str z.2.1, V.str z.2.2]) := by
              rcases List.mem_append.mp hz with y | y
              · exact e6 _ _ (e5 _ _ (taz z y))
              · exact taw z y
            have ne : z.1 ≠ G := fun e => by
              rw [e, g6] at key
              exact nomatch key
            exact (upd_ne ne).trans key
          · rw [List.length_append]
            omega
          · rw [List.map_append] at ht
            rcases List.mem_append.mp ht with y | y
            · exact made t y
            · exact mw t y
    · obtain ⟨x, y, zs, rfl, e1, hz1, taz, zl, made⟩ := hP
      have zl' : zs.length ≤ 10 * ks.length := zl
      walk_at "rd"
      have L0r : (zs.map fun z => ((z.1, [z.2.1, z.2.2]) : Addr × List Str)).map (fun p => V.ref p.1) = rf zs := by
        rw [List.map_map]
        rfl
      have L0p : (zs.map fun z => ((z.1, [z.2.1, z.2.2]) : Addr × List Str)).map prS = zs.map (·.2) := by
        rw [List.map_map]
        rfl
      have L02 : ∀ p ∈ (zs.map fun z => ((z.1, [z.2.1, z.2.2]) : Addr × List Str)), p.2.length = 2 ∧ H3 p.1 = some (.tup (p.2.map V.str)) := fun p hp => by
        obtain ⟨z, hz, rfl⟩ := List.mem_map.mp hp
        exact ⟨rfl, taz z hz⟩
      have L0l : (zs.map fun z => ((z.1, [z.2.1, z.2.2]) : Addr × List Str)).length ≤ 90 := by
        rw [List.length_map]
        omega
      generalize (zs.map fun z => ((z.1, [z.2.1, z.2.2]) : Addr × List Str)) = L0 at L0r L0p L02 L0l
      refine ⟨G, L0, 2, rfl, SqL.of (by rw [L0r]; exact hz1), fun p hp => SqT.of (L02 p hp).2, by decide, fun p hp => (L02 p hp).1, by omega, fun p hp => ?_⟩
      have hpH : H p = none := by
        cases c : H p with
        | none => rfl
        | some o =>
          have z := e1 _ _ c
          rw [hp] at z
          exact nomatch z
      refine k p _ ((L0.mergeSort OwP.le).map fun p => (p.1, prS p)) (e1.trans (Ex.new hp)) ?_ (fun z hz => ?_) (by rw [List.length_map, List.length_mergeSort]; omega) (fun t ht => ?_) hpH
      · show _ = some (HO.lst (List.map (fun p => V.ref p.1) ((L0.mergeSort OwP.le).map fun p => (p.1, prS p))))
        rw [List.map_map]
        exact upd_same
      · obtain ⟨q, hq, rfl⟩ := List.mem_map.mp hz
        have ql := (List.mergeSort_perm L0 OwP.le).mem_iff.mp hq
        have y := (L02 q ql).2
        rw [pr_of (L02 q ql).1] at y
        exact Ex.new hp _ _ y
      · rw [List.map_map] at ht
        obtain ⟨q, hq, rfl⟩ := List.mem_map.mp ht
        have ql := (List.mergeSort_perm L0 OwP.le).mem_iff.mp hq
        refine made (prS q) ?_
        rw [← L0p]
        exact List.mem_map.mpr ⟨q, ql, rfl⟩
end
end OwW

namespace OwW
open PySem PyProof.Rows L2 L2H OwX Rd Evl
theorem norm_cases (a b : Str) (n : a ≠ b) : (norm (a, b) = (a, b) ∧ OwL2.lt a b = true) ∨ (norm (a, b) = (b, a) ∧ OwL2.lt b a = true) := by
  unfold norm OwL2.minS OwL2.maxS
  cases c : OwL2.lt b a with
  | true =>
    have d : OwL2.lt a b = false := by
      cases d : OwL2.lt a b with
      | false => rfl
      | true =>
        have z := lt_tr c d
        rw [lt_irr] at z
        exact nomatch z
    right
    rw [d]
    exact ⟨rfl, rfl⟩
  | false =>
    have d := lt_tot c fun e => n e.symm
    left
    rw [d]
    exact ⟨rfl, rfl⟩
theorem made_lt {ks : List Str} {t : Str × Str} (m : Made ks t) : t.1 ∈ ks ∧ t.2 ∈ ks ∧ OwL2.lt t.1 t.2 = true := by
  obtain ⟨a, b, ha, hb, n, rfl⟩ := m
  rcases norm_cases a b n with ⟨e, l⟩ | ⟨e, l⟩
  · rw [e]; exact ⟨ha, hb, l⟩
  · rw [e]; exact ⟨hb, ha, l⟩
theorem made_norm {ks : List Str} {t : Str × Str} (m : Made ks t) : norm t = t := by
  have l := (made_lt m).2.2
  obtain ⟨x, y⟩ := t
  have n : x ≠ y := fun e => by
    have l' : OwL2.lt x y = true := l
    rw [e, lt_irr] at l'
    exact nomatch l'
  rcases norm_cases x y n with ⟨e, _⟩ | ⟨e, l'⟩
  · exact e
  · have z := lt_tr (show OwL2.lt x y = true from l) l'
    rw [lt_irr] at z
    exact nomatch z
theorem ends_mem {ts : List (Str × Str)} {a b : Str} (h : b ∈ endsL ts a) : (a, b) ∈ ts ∨ (b, a) ∈ ts := by
  unfold endsL at h
  obtain ⟨t, ht, rfl⟩ := List.mem_map.mp h
  obtain ⟨h1, h2⟩ := List.mem_filter.mp ht
  obtain ⟨x, y⟩ := t
  unfold hits at h2
  unfold far
  by_cases c : x = a
  · rw [if_pos c]
    left
    rw [← c]
    exact h1
  · rw [if_neg c]
    have d : y = a := by
      have z : (decide (x = a) || decide (y = a)) = true := h2
      rw [decide_eq_false c, Bool.false_or] at z
      exact of_decide_eq_true z
    right
    rw [← d]
    exact h1
theorem mem_ends1 {ts : List (Str × Str)} {a b : Str} (h : (a, b) ∈ ts) : b ∈ endsL ts a := by
  unfold endsL
  refine List.mem_map.mpr ⟨(a, b), List.mem_filter.mpr ⟨h, ?_⟩, ?_⟩
  · show (decide (a = a) || _) = true
    rw [decide_eq_true rfl, Bool.true_or]
  · unfold far
    rw [if_pos rfl]
theorem mem_ends2 {ts : List (Str × Str)} {a b : Str} (n : a ≠ b) (h : (b, a) ∈ ts) : b ∈ endsL ts a := by
  unfold endsL
  refine List.mem_map.mpr ⟨(b, a), List.mem_filter.mpr ⟨h, ?_⟩, ?_⟩
  · show (_ || decide (a = a)) = true
    rw [decide_eq_true rfl, Bool.or_true]
  · unfold far
    rw [if_neg fun e => n e.symm]
theorem ends_symm {ts : List (Str × Str)} (hn : ∀ t ∈ ts, t.1 ≠ t.2) {a b : Str} (h : b ∈ endsL ts a) : a ∈ endsL ts b := by
  rcases ends_mem h with z | z
  · exact mem_ends2 (fun e => hn _ z e.symm) z
  · exact mem_ends1 z
theorem Rch.trans {ts : List (Str × Str)} {x y z : Str} (h : Rch ts x y) (g : Rch ts y z) : Rch ts x z := by
  induction g with
  | here => exact h
  | on _ hb ih => exact .on ih hb
theorem Rch.symm {ts : List (Str × Str)} (hn : ∀ t ∈ ts, t.1 ≠ t.2) {x y : Str} (h : Rch ts x y) : Rch ts y x := by
  induction h with
  | here => exact .here
  | on _ hb ih => exact (Rch.on .here (ends_symm hn hb)).trans ih
theorem tied {ts : List (Str × Str)} {a b : Str} (n : a ≠ b) (h : norm (a, b) ∈ ts) : Rch ts a b := by
  rcases norm_cases a b n with ⟨e, _⟩ | ⟨e, _⟩
  · rw [e] at h
    exact .on .here (mem_ends1 h)
  · rw [e] at h
    exact .on .here (mem_ends2 n h)
/-- each name behind the first one is tied to one before it -/
def Tree (ns : List Str) (ts : List (Str × Str)) : Prop := ∀ i a, 1 ≤ i → ns[i]? = some a → ∃ j b, j < i ∧ ns[j]? = some b ∧ norm (a, b) ∈ ts
theorem tree_rch {ns : List Str} {ts : List (Str × Str)} (nd : ns.Nodup) (hn : ∀ t ∈ ts, t.1 ≠ t.2) (T : Tree ns ts) {x : Str} (hx : ns[0]? = some x) : ∀ (m i : Nat) (a : Str), i ≤ m → ns[i]? = some a → Rch ts x a
  | m, 0, a, _, ha => by
    rw [hx] at ha
    cases ha
    exact .here
  | 0, i + 1, a, hi, _ => absurd hi (by omega)
  | m + 1, i + 1, a, hi, ha => by
    obtain ⟨j, b, hj, hb, ht⟩ := T (i + 1) a (by omega) ha
    have ih := tree_rch nd hn T hx m j b (by omega) hb
    have nab : a ≠ b := fun e => by
      have z := (List.getElem?_inj (List.getElem?_eq_some_iff.mp ha).1 nd).mp (ha.trans (by rw [hb, e]))
      omega
    exact ih.trans ((tied nab ht).symm hn)
theorem nodup_leG {α : Type} [DecidableEq α] : ∀ (R ns : List α), R.Nodup → (∀ r ∈ R, r ∈ ns) → R.length ≤ ns.length
  | [], _, _, _ => Nat.zero_le _
  | r :: R, ns, nd, h => by
    obtain ⟨n1, n2⟩ := List.nodup_cons.mp nd
    have hr := h r List.mem_cons_self
    have ih := nodup_leG R (ns.erase r) n2 fun s hs => (List.mem_erase_of_ne fun e => n1 (by rw [← e]; exact hs)).mpr (h s (List.mem_cons_of_mem _ hs))
    rw [List.length_erase_of_mem hr] at ih
    have z := List.length_pos_of_mem hr
    show R.length + 1 ≤ _
    omega
theorem pw_nodup {α : Type} {r : α → α → Bool} (irr : ∀ a, r a a = false) {l : List α} (h : l.Pairwise (fun a b => r a b = true)) : l.Nodup := h.imp fun {a b} z e => by
  rw [e, irr] at z
  exact nomatch z
/-- what plain makes of the ties of a tree and others is a web -/
theorem web_of {ns : List Str} {ys : List (Str × Str)} {ks : List Str} {ts : List (Str × Str)} (nd : ns.Nodup) (two : 2 ≤ ns.length) (nine : ns.length ≤ 9) (ok : ∀ k ∈ ns, nameB k = true) (T : Tree ns ys) (M : ∀ t ∈ ys, Made ns t) (few : ys.length ≤ 18)
    (asc : ks.Pairwise (fun a b => OwL2.lt a b = true)) (km : ∀ k, k ∈ ks ↔ ∃ t ∈ ys, k = t.1 ∨ k = t.2) (tasc : ts.Pairwise (fun a b => OwL2.ltP a b = true)) (tm : ∀ t, t ∈ ts ↔ t ∈ ys.map norm) : WebOk ks ts ∧ ∀ k, k ∈ ks ↔ k ∈ ns := by
  have ty : ∀ t, t ∈ ts ↔ t ∈ ys := fun t => by
    rw [tm t]
    constructor
    · intro h
      obtain ⟨u, hu, rfl⟩ := List.mem_map.mp h
      rw [made_norm (M u hu)]
      exact hu
    · intro h
      exact List.mem_map.mpr ⟨t, h, made_norm (M t h)⟩
  have hn : ∀ t ∈ ts, t.1 ≠ t.2 := fun t ht e => by
    have z := (made_lt (M t ((ty t).mp ht))).2.2
    rw [e, lt_irr] at z
    exact nomatch z
  have T' : Tree ns ts := fun i a h1 ha => by
    obtain ⟨j, b, hj, hb, h⟩ := T i a h1 ha
    exact ⟨j, b, hj, hb, (ty _).mpr h⟩
  have kn : ∀ k, k ∈ ks ↔ k ∈ ns := fun k => by
    rw [km k]
    constructor
    · rintro ⟨t, ht, e | e⟩
      · rw [e]; exact (made_lt (M t ht)).1
      · rw [e]; exact (made_lt (M t ht)).2.1
    · intro h
      have both : ∀ a b, a ≠ b → norm (a, b) ∈ ys → ∃ t ∈ ys, (a = t.1 ∨ a = t.2) ∧ (b = t.1 ∨ b = t.2) := fun a b n ht => by
        rcases norm_cases a b n with ⟨e, _⟩ | ⟨e, _⟩
        · rw [e] at ht
          exact ⟨_, ht, Or.inl rfl, Or.inr rfl⟩
        · rw [e] at ht
          exact ⟨_, ht, Or.inr rfl, Or.inl rfl⟩
      have diff : ∀ {i j : Nat} {a b : Str}, ns[i]? = some a → ns[j]? = some b → i ≠ j → a ≠ b := fun {i j a b} ha hb hij e =>
        hij ((List.getElem?_inj (List.getElem?_eq_some_iff.mp ha).1 nd).mp (ha.trans (by rw [hb, e])))
      obtain ⟨i, hi⟩ := List.getElem?_of_mem h
      by_cases c : 1 ≤ i
      · obtain ⟨j, b, hj, hb, ht⟩ := T i k c hi
        obtain ⟨t, h1, h2, _⟩ := both k b (diff hi hb (by omega)) ht
        exact ⟨t, h1, h2⟩
      · have i0 : i = 0 := by omega
        subst i0
        obtain ⟨a, ha⟩ : ∃ a, ns[1]? = some a := ⟨_, List.getElem?_eq_getElem (by omega)⟩
        obtain ⟨j, b, hj, hb, ht⟩ := T 1 a (Nat.le_refl _) ha
        have j0 : j = 0 := by omega
        subst j0
        rw [hi] at hb
        cases hb
        obtain ⟨t, h1, _, h3⟩ := both a k (diff ha hi (by omega)) ht
        exact ⟨t, h1, h3⟩
  have knd := pw_nodup lt_irr asc
  have tnd := pw_nodup ltP_irr tasc
  have l1 := nodup_leG ks ns knd fun k hk => (kn k).mp hk
  have l2 := nodup_leG ns ks nd fun k hk => (kn k).mpr hk
  have l3 := nodup_leG ts ys tnd fun t ht => (ty t).mp ht
  obtain ⟨x, hx⟩ : ∃ x, ns[0]? = some x := ⟨_, List.getElem?_eq_getElem (by omega)⟩
  have all : ∀ k ∈ ns, Rch ts x k := fun k hk => by
    obtain ⟨i, hi⟩ := List.getElem?_of_mem hk
    exact tree_rch nd hn T' hx i i k (Nat.le_refl _) hi
  have k0 : ks.getD 0 "" ∈ ns := by
    refine (kn _).mp ?_
    cases ks with
    | nil => exact absurd (show 2 ≤ 0 by exact Nat.le_trans two l2) (by omega)
    | cons a r => exact List.mem_cons_self
  refine ⟨⟨fun k hk => ok k ((kn k).mp hk), by omega, by omega, asc, fun t ht => ?_, by omega, tasc, fun k hk => ?_⟩, kn⟩
  · have z := made_lt (M t ((ty t).mp ht))
    exact ⟨(kn _).mpr z.1, (kn _).mpr z.2.1, z.2.2⟩
  · exact ((all _ k0).symm hn).trans (all k ((kn k).mp hk))
end OwW


namespace OwW
open PySem PyProof.Rows L2 L2H OwX Rd Evl
theorem units65 {k : Nat} {A : Around} (r : Room k A) : A.units + 65 < cLine := by
  have := r.un
  omega
abbrev sLWeb : Stmt := top 54
abbrev NLw : List Str := ["_law_dice_here", "_law_most", "_law_spare", "_law_names_here", "_law_ties", "_law_free", "_law_at", "_law_tie_here"]
theorem cut_take (xs : List V) {i : Nat} (h : 2 + i ≤ xs.length) : cutV xs none (some (2 + (i : Int))) = xs.take (2 + i) := by
  unfold cutV
  have e1 : HT.sIx xs.length 0 none = 0 := rfl
  have e2 : HT.sIx xs.length xs.length (some (2 + (i : Int))) = 2 + i := by
    have c : (2 + (i : Int)) = ((2 + i : Nat) : Int) := by omega
    rw [c, HT.sIx_nat]
    omega
  rw [e1, e2]
  rfl
theorem at_nat {xs : List V} {v : V} {k : Int} (j : Nat) (hk : k = (j : Int)) (h : xs[j]? = some v) : atI xs k = some v := by
  have hl := (List.getElem?_eq_some_iff.mp h).1
  subst hk
  unfold atI ixN
  rw [if_pos (by omega), if_pos (by omega)]
  exact h
def pairD (t : Str × Str) : PyData := .tuple [.str t.1, .str t.2]
theorem dp_pairs {K : PySem.W.Frag} {H : Hp} : ∀ {zs : TL}, TA H zs → DpAll K H (rf zs) ((zs.map (·.2)).map pairD)
  | [], _ => .nil
  | z :: zs, h => .cons (.tup (SqT.of (h z List.mem_cons_self)) (.cons (.str _) (.cons (.str _) .nil))) (dp_pairs fun y hy => h y (List.mem_cons_of_mem _ hy))
theorem lay_pairs : ∀ {ts : List (Str × Str)}, (∀ t ∈ ts, nameB t.1 = true ∧ nameB t.2 = true) → PyData.canLayAll0 (ts.map pairD) = true ∧ PyData.depthAll (ts.map pairD) ≤ 1
  | [], _ => by simp [PyData.canLayAll0, PyData.depthAll]
  | t :: r, h => by
    have a := h t List.mem_cons_self
    obtain ⟨b, c⟩ := lay_pairs (ts := r) fun z hz => h z (List.mem_cons_of_mem _ hz)
    have a1 := name_ok a.1
    have a2 := name_ok a.2
    simp [PyData.canLayAll0, PyData.canLay0, PyData.depthAll, PyData.depth, pairD, a1, a2, b, c]
theorem shaped_pairs {ts : List (Str × Str)} (h : ∀ t ∈ ts, nameB t.1 = true ∧ nameB t.2 = true) : SeqAt.shaped (.list (ts.map pairD)) = true := by
  obtain ⟨a, b⟩ := lay_pairs h
  simp [SeqAt.shaped, PyData.canLay0, PyData.depth, a]
  omega
theorem cut_upto (xs : List V) (i : Nat) : cutV xs none (some (i : Int)) = xs.take i := by
  unfold cutV
  have e1 : HT.sIx xs.length 0 none = 0 := rfl
  rw [e1, HT.sIx_nat, List.drop_zero, Nat.sub_zero]
  by_cases h : i ≤ xs.length
  · rw [Nat.min_eq_left h]
  · rw [Nat.min_eq_right (by omega), List.take_of_length_le (Nat.le_refl _), List.take_of_length_le (by omega)]
theorem plain_wo {a d : Addr} {H : Hp} {ks : List Str} {zs : TL} (hd : HasDice H a) (pl : PlainAt H d ks zs) : PlainAt (wo a H) d ks zs := by
  obtain ⟨l, s, n, _, q⟩ := hd
  obtain ⟨⟨kp, tp, h1, h2, h3⟩, ta⟩ := pl
  unfold dice at q
  refine ⟨⟨kp, tp, wo_of h1 fun e => ?_, wo_of h2 fun e => ?_, wo_of h3 fun e => ?_⟩, fun t ht => wo_of (ta t ht) fun e => ?_⟩
  · rw [e, q] at h1
    exact nomatch h1
  · rw [e, q] at h2
    cases ks with
    | nil => exact nomatch h2
    | cons k r => exact nomatch h2
  · rw [e, q] at h3
    cases zs with
    | nil => exact nomatch h3
    | cons k r => exact nomatch h3
  · have z := ta t ht
    rw [e, q] at z
    exact nomatch z
theorem dx_none {a d : Addr} {H H' : Hp} (x : DX a H H') (h : H' d = none) : H d = none := by
  cases c : H d with
  | none => rfl
  | some o =>
    have da : d ≠ a := fun e => by
      obtain ⟨_, _, _, _, q⟩ := x.at_
      rw [← e, h] at q
      exact nomatch q
    have z := wo_in a _ _ _ (x.ex _ _ (wo_of c da))
    rw [h] at z
    exact nomatch z
def spLWeb : Sp := fun vs H Q _ => ∃ (a : Addr) (m sp : Nat), vs = [.ref a, .int m, .int sp] ∧ HasDice H a ∧ 2 ≤ m ∧ m ≤ 9 ∧ sp ≤ 9 ∧
  ∀ d H' (ks : List Str) (zs : TL), DX a H H' → PlainAt (wo a H') d ks zs → WebOk ks (zs.map (·.2)) → (∀ k ∈ ks, k ∈ names14) → H d = none → Q (.ref d) H'
section
variable {P : Program} {w : World} {K : PySem.W.Frag} {mg : Str → Option Value} {base : Heap}
theorem scLWeb : FnScope NLw ["_law_dice_here", "_law_most", "_law_spare"] (defScope sLWeb) := ⟨rfl, rfl, rfl, by decide +kernel, rfl, by decide +kernel, by decide +kernel⟩
theorem ok_lweb {f f1 f2 f3 f4 f5 f6 : Addr} {fd d1 d2 d3 d4 d5 d6 : FuncData} (F : Fun K "_law_web" "_law_web" sLWeb f fd)
    (FM : Fun K "_law_mixed" "_law_mixed" sMixed f1 d1) (gM : mg "_law_mixed" = some (.ref f1)) (GM : FnOk P w K mg base CX0 2 f1 d1 ["_law_dice_here", "_law_items"] spMixed)
    (FN : Fun K "_law_names" "_law_names" sLNames f2 d2) (gN : mg "_law_names" = some (.ref f2)) (GN : FnOk P w K mg base CX0 1 f2 d2 [] spLNames)
    (FR : Fun K "_law_roll" "_law_roll" sRoll f3 d3) (gR : mg "_law_roll" = some (.ref f3)) (GR : FnOk P w K mg base CX0 1 f3 d3 ["_law_dice_here", "_law_total"] spRoll)
    (FT : Fun K "_law_tie" "_law_tie" sTie f4 d4) (gT : mg "_law_tie" = some (.ref f4)) (GT : FnOk P w K mg base CX0 1 f4 d4 ["_law_a", "_law_b"] spTie)
    (FP : Fun K "_law_pairs" "_law_pairs" sPairs f5 d5) (gP : mg "_law_pairs" = some (.ref f5)) (GP : FnOk P w K mg base CX0 2 f5 d5 ["_law_places"] spPairs)
    (FL : Fun K "_law_plain" "_law_plain" sPlain f6 d6) (gL : mg "_law_plain" = some (.ref f6)) (GL : FnOk P w K mg base CX0 2 f6 d6 ["_law_places", "_law_ties"] spPlain) (T : BltM mg) : FnOk P w K mg base CX0 3 f fd ["_law_dice_here", "_law_most", "_law_spare"] spLWeb := by
  have nd := scLWeb.nd
  have bM : Binds K d1 ["_law_dice_here", "_law_items"] [] := FM.binds fun _ _ _ _ _ _ us hl => match us, hl with | [_, _], _ => rfl
  have bN : Binds K d2 [] [] := FN.binds fun _ _ _ _ _ _ us hl => match us, hl with | [], _ => rfl
  have bR := rollBinds FR
  have bT : Binds K d4 ["_law_a", "_law_b"] [] := FT.binds fun _ _ _ _ _ _ us hl => match us, hl with | [_, _], _ => rfl
  have bP : Binds K d5 ["_law_places"] [] := FP.binds fun _ _ _ _ _ _ us hl => match us, hl with | [_], _ => rfl
  have bL : Binds K d6 ["_law_places", "_law_ties"] [] := FL.binds fun _ _ _ _ _ _ us hl => match us, hl with | [_, _], _ => rfl
  refine F.ok scLWeb (fun vs H Q E h => ?_) (fun cdv A outer s H vs Q E hr h => ⟨_, (pss_cons (ps_set (i := 3) nd rfl (Or.inr rfl) (pe_slice sl_list (pe_call GM (hr.mono (by decide)) (by rfl) gM FM.kp bM .nil pass0 (pa_cons (pv 0) (pa_cons (pe_call0 GN (hr.mono (by decide)) (by rfl) gN FN.kp bN .nil pass0) pa_nil))) po_none (po_some (pe_op op_add pe_int (pe_call GR (hr.mono (by decide)) (by rfl) gR FR.kp bR .nil pass0 (pa_cons (pv 0) (pa_cons (pe_op op_sub (pv 1) pe_int) pa_nil)))))))
    (pss_cons (ps_set (i := 4) nd rfl (Or.inr rfl) (pe_lc (own := [("_law_at", 6)]) (g := gName 6) (tt := tYes) (te := tCall spTie [] E0 (tCons (tOp (rIxL K) (tVar 3) (tVar 6)) (tCons (tOp (rIxL K) (tVar 3) (tCall spRoll [] E0 (tCons (tVar 0) (tCons (tVar 6) tNil)))) tNil))) rfl nd (pi_range2 rfl T.range (pa_cons pe_int (pa_cons (pe_callB call_len_seq (by rfl) T.len (by decide +kernel) (pa_cons (pv 3) pa_nil)) pa_nil))) (blkOk_by (own := [("_law_at", 6)]) (N := NLw) (sc := defScope sLWeb) (by decide +kernel)) (fun _ _ _ _ _ => (pg_name (i := 6) nd rfl (Or.inl rfl))) (fun _ _ _ _ _ => pts_nil) (fun _ _ _ _ _ => (pe_call GT (hr.mono (by decide)) (by rfl) gT FT.kp bT .nil pass0 (pa_cons (pe_ix ix_list (pv 3) (pv 6) (fun _ _ => rfl)) (pa_cons (pe_ix ix_list (pv 3) (pe_call GR (hr.mono (by decide)) (by rfl) gR FR.kp bR .nil pass0 (pa_cons (pv 0) (pa_cons (pv 6) pa_nil))) (fun _ _ => rfl)) pa_nil))))))
    (pss_cons (ps_set (i := 5) nd rfl (Or.inl rfl) (pe_call GM (hr.mono (by decide)) (by rfl) gM FM.kp bM .nil pass0 (pa_cons (pv 0) (pa_cons (pe_lc (own := [("_law_tie_here", 7)]) (g := gName 7) (tt := tTest (tOp (rNotInD K) (tVar 7) (tVar 4))) rfl nd (pi_list (pe_call GP (hr.mono (by decide)) (by rfl) gP FP.kp bP .nil pass0 (pa_cons (pe_callB cr_sortedS (by rfl) T.sorted (by decide +kernel) (pa_cons (pv 3) pa_nil)) pa_nil))) (blkOk_by (own := [("_law_tie_here", 7)]) (N := NLw) (sc := defScope sLWeb) (by decide +kernel)) (fun _ _ _ _ _ => (pg_name (i := 7) nd rfl (Or.inl rfl))) (fun _ _ _ _ _ => (pts_one (pt_cmpR (op_notInD (units65 hr)) (pv 7) (pv 4) (by with_unfolding_all rfl)))) (fun _ _ _ _ _ => (pv 7))) pa_nil))))
    (pss_one (ps_ret (pe_call GL (hr.mono (by decide)) (by rfl) gL FL.kp bL .nil pass0 (pa_cons (pe_lstN pa_nil) (pa_cons (pe_op op_cat (pv 4) (pe_slice sl_list (pv 5) po_none (po_some (pe_call GR (hr.mono (by decide)) (by rfl) gR FR.kp bR .nil pass0 (pa_cons (pv 0) (pa_cons (pe_op op_add (pv 2) pe_int) pa_nil)))))) pa_nil)))))))), ?_⟩)
  · obtain ⟨a, m, sp, rfl, _⟩ := h
    rfl
  · obtain ⟨a, m, sp, rfl, hd, m2, m9, s9, k⟩ := h
    walk_at "rd"
    unfold tSl
    walk_at "rd"
    refine ⟨rfl, fun p H1 e1 hp1 hn1 => ?_⟩
    have x1 : DX a H H1 := DX.of e1 hd
    walk_at "rd"
    refine ⟨a, p, names14.map V.str, rfl, x1.at_, wo_of hp1 (fresh_ne hd hn1), by decide, fun M ms H2 pm x2 hM hMn => ?_⟩
    obtain ⟨ns, rfl, pmn⟩ := OwP.perm_unmap V.str pm names14 rfl
    unfold tNoPart tPart
    walk_at "rd"
    refine roll_dx x2.at_ (by omega) (by omega) fun r H3 r0 r1 x3 => ?_
    obtain ⟨rn, rfl⟩ := Int.eq_ofNat_of_zero_le r0
    walk_at "rd"
    refine ⟨_, rfl, ?_⟩
    walk_at "rd"
    have mM := wo_in a _ _ _ (x3.ex _ _ hM)
    have nl : ns.length = 14 := pmn.length_eq
    have ec : cutV (ns.map V.str) none (some (2 + (rn : Int))) = (ns.take (2 + rn)).map V.str := by rw [cut_take _ (by rw [List.length_map]; omega), List.map_take]
    refine ⟨M, _, rfl, SqL.of mM, fun S hS => ?_⟩
    rw [ec]
    have x4 : DX a H (upd H3 S (.lst ((ns.take (2 + rn)).map V.str))) := ((x1.trans x2).trans x3).then (Ex.new hS)
    have s4 : wo a (upd H3 S (.lst ((ns.take (2 + rn)).map V.str))) S = some (.lst ((ns.take (2 + rn)).map V.str)) := wo_of upd_same (fresh_ne x3.at_ hS)
    generalize upd H3 S (.lst ((ns.take (2 + rn)).map V.str)) = H4 at x4 s4 ⊢
    have wl : (ns.take (2 + rn)).length = 2 + rn := by rw [List.length_take]; omega
    have wnd : (ns.take (2 + rn)).Nodup := (pmn.symm.nodup names14_nd).sublist (List.take_sublist _ _)
    have wok : ∀ k ∈ ns.take (2 + rn), nameB k = true := fun k hk => names14_ok k (pmn.mem_iff.mp (List.mem_of_mem_take hk))
    have win : ∀ k ∈ ns.take (2 + rn), k ∈ names14 := fun k hk => pmn.mem_iff.mp (List.mem_of_mem_take hk)
    generalize ns.take (2 + rn) = ws at s4 wl wnd wok win
    clear ec mM nl pmn pm hM
    have w9 : ws.length ≤ 9 := by omega
    have w2 : 2 ≤ ws.length := by omega
    walk_at "rd"
    refine Rd.lcm' ?_
    unfold iRng2
    walk_at "rd"
    have S4 := wo_in a _ _ _ s4
    refine ⟨S, _, rfl, Or.inl (SqL.of S4), ?_⟩
    walk_at "rd"
    rw [List.length_map]
    refine ⟨1, _, rfl, ⟨by omega, by omega, by omega, by omega⟩, fun D hD => ?_⟩
    have Da := fresh_ne x4.at_ hD
    have en : (((ws.length : Nat) : Int) - 1).toNat = ws.length - 1 := by omega
    rw [en]
    refine lc_it (walk_range (lo := 1)) (fun i H' => DX a H4 H' ∧ ∃ zs : TL, H' D = some (.lst (rf zs)) ∧ TA (wo a H') zs ∧ zs.length = i ∧ ∀ j t, zs[j]? = some t → ∃ q b c, q < j + 1 ∧ ws[j + 1]? = some b ∧ ws[q]? = some c ∧ t.2 = norm (b, c)) ⟨(DX.of (Ex.refl _) x4.at_).mut hD Da, [], upd_same, (fun _ h => nomatch h), rfl, fun _ _ h => nomatch h⟩ (fun _ _ _ _ => trivial) (fun i z Ha Hb hi hP hY => ?_) (fun H5 hP => ?_)
    · obtain ⟨x5, zs, hz5, taz, zl, tree⟩ := hP
      obtain ⟨rfl, rfl⟩ := hY
      show _ ∧ _
      refine ⟨rfl, ?_⟩
      unfold tYes
      show (if (true : Bool) = true then _ else _)
      rw [if_pos rfl]
      walk_at "rd"
      obtain ⟨b, hb⟩ : ∃ b, ws[i + 1]? = some b := ⟨_, List.getElem?_eq_getElem (by omega)⟩
      have S5 := wo_in a _ _ _ (x5.ex _ _ s4)
      show rIxL K (.ref S) (.int (1 + (i : Int))) Hb _
      refine Rd.ixl (SqL.of S5) (at_nat (i + 1) (by omega) (by rw [List.getElem?_map, hb]; rfl)) ?_
      walk_at "rd"
      refine roll_dx x5.at_ (by omega) (by omega) fun r H6 r0 r1 x6 => ?_
      obtain ⟨q, rfl⟩ := Int.eq_ofNat_of_zero_le r0
      obtain ⟨c, hc⟩ : ∃ c, ws[q]? = some c := ⟨_, List.getElem?_eq_getElem (by omega)⟩
      have S6 := wo_in a _ _ _ (x6.ex _ _ (x5.ex _ _ s4))
      refine Rd.ixl (SqL.of S6) (at_nat q rfl (by rw [List.getElem?_map, hc]; rfl)) ?_
      walk_at "rd"
      have hz6 := x6.ex _ _ (wo_of hz5 Da)
      refine ⟨b, c, rfl, fun p7 H7 e7 hp7 hn7 => ⟨rf zs, e7 _ _ (wo_in a _ _ _ hz6), sz_lt (by unfold rf; rw [List.length_map]; omega), ((x5.trans x6).then e7).mut hD Da, zs ++ [(p7, norm (b, c))], ?_, fun z hz => ?_, by rw [List.length_append, zl]; rfl, fun j t ht => ?_⟩⟩
      · unfold rf
        rw [List.map_append]
        exact upd_same
      · have ha7 := fresh_ne x6.at_ hn7
        have hDD := e7 _ _ (wo_in a _ _ _ hz6)
        have key : wo a H7 z.1 = some (.tup [V.str z.2.1, V.str z.2.2]) := by
          rcases List.mem_append.mp hz with y | y
          · exact wo_ex e7 _ _ (x6.ex _ _ (taz z y))
          · rw [List.mem_singleton.mp y]
            exact wo_of hp7 ha7
        have ne : z.1 ≠ D := fun e => by
          have y := wo_in a _ _ _ key
          rw [e, hDD] at y
          exact nomatch y
        have na : z.1 ≠ a := fun e => by
          rw [e] at key
          unfold wo at key
          rw [if_pos rfl] at key
          exact nomatch key
        exact wo_of ((upd_ne ne).trans (wo_in a _ _ _ key)) na
      · by_cases cj : j < zs.length
        · rw [List.getElem?_append_left cj] at ht
          exact tree j t ht
        · have jl : j < (zs ++ [(p7, norm (b, c))]).length := (List.getElem?_eq_some_iff.mp ht).1
          rw [List.length_append] at jl
          have je : j = i := by
            have : j < zs.length + 1 := jl
            omega
          subst je
          rw [List.getElem?_append_right (by omega), zl, Nat.sub_self] at ht
          cases ht
          exact ⟨q, b, c, by omega, hb, hc, rfl⟩
    · obtain ⟨x5, zs, hz5, taz, zl, tree⟩ := hP
      walk_at "rd"
      refine Rd.lcm' (Rd.ilist' ?_)
      walk_at "rd"
      have S5 := wo_in a _ _ _ (x5.ex _ _ s4)
      refine ⟨S, ws, rfl, SqL.of S5, by omega, fun ss q pms so hq => ?_⟩
      walk_at "rd"
      have snd : ss.Nodup := pms.symm.nodup wnd
      refine ⟨q, ss, rfl, upd_same, by rw [pms.length_eq]; exact w9, snd, fun P6 H6 fs e6 hf6 taf fl mf hn6 => ?_⟩
      refine ⟨P6, rfl, ⟨_, SqL.of hf6⟩, fun D2 hD2 => ?_⟩
      have x6 : DX a H4 H6 := (x5.then (Ex.new hq)).then e6
      have z6 : wo a H6 D = some (.lst (rf zs)) := wo_ex ((Ex.new hq).trans e6) _ _ (wo_of hz5 Da)
      have taz6 : TA (wo a H6) zs := taz.ex (wo_ex ((Ex.new hq).trans e6))
      have zok : ∀ t ∈ zs.map (·.2), nameB t.1 = true ∧ nameB t.2 = true := fun t ht => by
        obtain ⟨u, hu, rfl⟩ := List.mem_map.mp ht
        obtain ⟨j, hj⟩ := List.getElem?_of_mem hu
        obtain ⟨q', b, c, hq', hb, hc, e⟩ := tree j u hj
        have nbc : b ≠ c := fun e' => by
          have z := (List.getElem?_inj (List.getElem?_eq_some_iff.mp hb).1 wnd).mp (hb.trans (by rw [hc, e']))
          omega
        have m := made_lt (ks := ws) (t := u.2) ⟨b, c, List.mem_of_getElem? hb, List.mem_of_getElem? hc, nbc, e⟩
        exact ⟨wok _ m.1, wok _ m.2.1⟩
      refine lc_it (walk_list (xs := rf fs)) (fun i H' => Ex H6 H' ∧ ∃ gs : TL, H' D2 = some (.lst (rf gs)) ∧ gs.length ≤ i ∧ ∀ t ∈ gs, t ∈ fs) ⟨Ex.new hD2, [], upd_same, Nat.zero_le _, fun _ h => nomatch h⟩ (fun i H' _ hP => SqL.of (hP.1 _ _ hf6)) (fun i z Ha Hb hi hP hY => ?_) (fun H7 hP => ?_)
      · obtain ⟨e7, gs, hg7, gl, gsub⟩ := hP
        obtain ⟨rfl, hz⟩ := hY
        rw [List.getElem?_map] at hz
        cases ht : fs[i]? with
        | none => rw [ht] at hz; exact nomatch hz
        | some t =>
          rw [ht] at hz
          cases hz
          have tm := List.mem_of_getElem? ht
          have mt := made_lt (mf t.2 (List.mem_map.mpr ⟨t, tm, rfl⟩))
          have n1 := wok _ (pms.mem_iff.mp mt.1)
          have n2 := wok _ (pms.mem_iff.mp mt.2.1)
          have i100 : i < 100 := by
            have z : i < (rf fs).length := hi
            unfold rf at z
            rw [List.length_map] at z
            omega
          show _ ∧ _
          refine ⟨rfl, ?_⟩
          walk_at "rd"
          refine ⟨.tuple ([t.2.1, t.2.2].map PyData.str), (zs.map (·.2)).map pairD, .tup (SqT.of (taf.ex e7 t tm)) (dp_strsT [t.2.1, t.2.2]), .lst (SqL.of (e7 _ _ (wo_in a _ _ _ z6))) (dp_pairs (taz6.ex ((wo_in a H6).trans e7))), shaped_tup (fun s hs => ?_), shaped_pairs zok, ?_⟩
          · rcases List.mem_cons.mp hs with e | hs
            · rw [e]; exact n1
            · rw [List.mem_singleton.mp hs]; exact n2
          · generalize (!((zs.map (·.2)).map pairD).any fun z => PyData.eqv z (.tuple ([t.2.1, t.2.2].map PyData.str))) = kb
            refine ⟨kb, rfl, ?_⟩
            cases kb with
            | false =>
              rw [if_neg (by decide)]
              exact ⟨e7, gs, hg7, Nat.le_succ_of_le gl, gsub⟩
            | true =>
              rw [if_pos rfl]
              walk_at "rd"
              refine ⟨_, hg7, sz_lt (by unfold rf; rw [List.length_map]; omega), e7.mut hD2, gs ++ [t], ?_, by rw [List.length_append]; exact Nat.add_le_add_right gl 1, fun u hu => ?_⟩
              · unfold rf
                rw [List.map_append]
                exact upd_same
              · rcases List.mem_append.mp hu with y | y
                · exact gsub u y
                · rw [List.mem_singleton.mp y]
                  exact tm
      · obtain ⟨e7, gs, hg7, gl, gsub⟩ := hP
        walk_at "rd"
        have x7 : DX a H4 H7 := x6.then e7
        have g100 : gs.length ≤ 100 := Nat.le_trans gl (by unfold rf; rw [List.length_map]; exact fl)
        have taf7 := taf.ex e7
        have D2a := fresh_ne x6.at_ hD2
        refine ⟨a, D2, rf gs, rfl, x7.at_, wo_of hg7 D2a, by unfold rf; rw [List.length_map]; omega, fun FM' fr H8 pmf x8 hF8 hFn => ?_⟩
        obtain ⟨hs, rfl, pmh⟩ := OwP.perm_unmap (fun p : Addr × Str × Str => V.ref p.1) pmf gs rfl
        walk_at "rd"
        refine ⟨small64 (n := 0) (by decide), fun L0 hL0 _ => ?_⟩
        walk_at "rd"
        have x9 : DX a H4 (upd H8 L0 (.lst [])) := (x7.trans x8).then (Ex.new hL0)
        have y9 : DX a H6 (upd H8 L0 (.lst [])) := ((DX.of e7 x6.at_).trans x8).then (Ex.new hL0)
        have l9 : wo a (upd H8 L0 (.lst [])) L0 = some (.lst []) := wo_of upd_same (fresh_ne x8.at_ hL0)
        have f9 := wo_ex (Ex.new (o := .lst []) hL0) _ _ hF8
        generalize upd H8 L0 (.lst []) = H9 at x9 y9 l9 f9 ⊢
        refine roll_dx x9.at_ (by omega) (by omega) fun r H10 r0 r1 x10 => ?_
        obtain ⟨rt, rfl⟩ := Int.eq_ofNat_of_zero_le r0
        walk_at "rd"
        refine ⟨_, rfl, ?_⟩
        refine ⟨FM', _, rfl, SqL.of (wo_in a _ _ _ (x10.ex _ _ f9)), fun S2 hS2 => ?_⟩
        have x11 : DX a H4 (upd H10 S2 (.lst (cutV (hs.map fun p => V.ref p.1) none (some (rt : Int))))) := (x9.trans x10).then (Ex.new hS2)
        have y11 : DX a H6 (upd H10 S2 (.lst (cutV (hs.map fun p => V.ref p.1) none (some (rt : Int))))) := (y9.trans x10).then (Ex.new hS2)
        have s11 : (upd H10 S2 (.lst (cutV (hs.map fun p => V.ref p.1) none (some (rt : Int))))) S2 = some (.lst (rf (hs.take rt))) := by
          rw [upd_same, cut_upto, ← List.map_take]
        have l11 := wo_ex (Ex.new (o := .lst (cutV (hs.map fun p => V.ref p.1) none (some (rt : Int)))) hS2) _ _ (x10.ex _ _ l9)
        generalize upd H10 S2 (.lst (cutV (hs.map fun p => V.ref p.1) none (some (rt : Int)))) = H11 at x11 y11 s11 l11 ⊢
        have z11 := wo_in a _ _ _ (y11.ex _ _ z6)
        have tl : (hs.take rt).length ≤ 9 := by rw [List.length_take]; omega
        refine ⟨D, S2, rf zs, rf (hs.take rt), rfl, rfl, z11, s11, small64 (n := _) (by unfold rf; rw [List.length_map, List.length_map]; omega), fun C hC => ?_⟩
        have x12 : DX a H4 (upd H11 C (.lst (rf zs ++ rf (hs.take rt)))) := x11.then (Ex.new hC)
        have y12 : DX a H6 (upd H11 C (.lst (rf zs ++ rf (hs.take rt)))) := y11.then (Ex.new hC)
        have c12 : (upd H11 C (.lst (rf zs ++ rf (hs.take rt)))) C = some (.lst (rf (zs ++ hs.take rt))) := by
          rw [upd_same]
          unfold rf
          rw [List.map_append]
        have l12 := wo_in a _ _ _ (wo_ex (Ex.new (o := .lst (rf zs ++ rf (hs.take rt))) hC) _ _ l11)
        generalize upd H11 C (.lst (rf zs ++ rf (hs.take rt))) = H12 at x12 y12 c12 l12 ⊢
        walk_at "rd"
        have taf6 : TA (wo a H6) fs := fun t ht => wo_of (taf t ht) fun e => by
          obtain ⟨l, s', n, _, q⟩ := x6.at_
          have z := taf t ht
          rw [e, q] at z
          cases z
        have hsf : ∀ t ∈ hs.take rt, t ∈ fs := fun t ht => gsub t (pmh.mem_iff.mp (List.mem_of_mem_take ht))
        have ta12 : TA H12 (zs ++ hs.take rt) := fun t ht => by
          rcases List.mem_append.mp ht with y | y
          · exact wo_in a _ _ _ (y12.ex _ _ (taz6 t y))
          · exact wo_in a _ _ _ (y12.ex _ _ (taf6 t (hsf t y)))
        have len : (zs ++ hs.take rt).length ≤ 18 := by rw [List.length_append]; omega
        refine ⟨L0, C, zs ++ hs.take rt, rfl, l12, c12, ta12, by omega, fun d H13 ks zz e13 pl asc km tasc tmm hdn => ?_⟩
        have TT : Tree ws ((zs ++ hs.take rt).map (·.2)) := fun i' a' h1 ha' => by
          have il := (List.getElem?_eq_some_iff.mp ha').1
          obtain ⟨t, ht⟩ : ∃ t, zs[i' - 1]? = some t := ⟨_, List.getElem?_eq_getElem (by omega)⟩
          obtain ⟨q', b, c, hq', hb, hc, e⟩ := tree (i' - 1) t ht
          have ei : i' - 1 + 1 = i' := by omega
          rw [ei] at hb hq'
          rw [ha'] at hb
          cases hb
          exact ⟨q', c, hq', hc, by rw [← e]; exact List.mem_map.mpr ⟨t, List.mem_append_left _ (List.mem_of_getElem? ht), rfl⟩⟩
        have MM : ∀ t ∈ (zs ++ hs.take rt).map (·.2), Made ws t := fun t ht => by
          obtain ⟨u, hu, rfl⟩ := List.mem_map.mp ht
          rcases List.mem_append.mp hu with y | y
          · obtain ⟨j, hj⟩ := List.getElem?_of_mem y
            obtain ⟨q', b, c, hq', hb, hc, e⟩ := tree j u hj
            exact ⟨b, c, List.mem_of_getElem? hb, List.mem_of_getElem? hc, fun e' => by
              have z := (List.getElem?_inj (List.getElem?_eq_some_iff.mp hb).1 wnd).mp (hb.trans (by rw [hc, e']))
              omega, e⟩
          · obtain ⟨b, c, hb, hc, n, e⟩ := mf u.2 (List.mem_map.mpr ⟨u, hsf u y, rfl⟩)
            exact ⟨b, c, pms.mem_iff.mp hb, pms.mem_iff.mp hc, n, e⟩
        obtain ⟨W, Wk⟩ := web_of wnd w2 w9 wok TT MM (by rw [List.length_map]; exact len) asc km tasc tmm
        refine k d H13 ks zz (x4.trans (x12.then e13)) (plain_wo (x12.then e13).at_ pl) W (fun k hk => win k ((Wk k).mp hk)) (dx_none (x4.trans x12) hdn)
end
end OwW


namespace OwW
open PySem PyProof.Rows L2 L2H OwX Rd Evl
abbrev sMade : Stmt := top 49
def spMade (C : Addr) : Sp := fun vs H Q _ => ∃ (d : Addr) (ks : List Str) (zs : TL), vs = [.ref d] ∧ PlainAt H d ks zs ∧ WebOk ks (zs.map (·.2)) ∧ ∀ a H', Ex H H' → IsWeb C H' a ks zs → H a = none → Q (.ref a) H'
section
variable {P : Program} {w : World} {K : PySem.W.Frag} {mg : Str → Option Value} {base : Heap}
theorem scMade : FnScope ["_law_plain_here"] ["_law_plain_here"] (defScope sMade) := ⟨rfl, rfl, rfl, by decide +kernel, rfl, by decide +kernel, by decide +kernel⟩
theorem ok_made {f g C : Addr} {fd gd : FuncData} (F : Fun K "_law_made" "_law_made" sMade f fd) (FI : Fun K "__init__" "Web.__init__" sInit g gd) (M : Mk K C g) (gW : mg "Web" = some (.ref C)) (GI : FnOk P w K mg base CX0 6 g gd ["self", "places", "ties"] (spInit C)) (T : BltM mg) : FnOk P w K mg base CX0 8 f fd ["_law_plain_here"] (spMade C) := by
  have nd := scMade.nd
  have bI : Binds K gd ["self", "places", "ties"] [] := FI.binds fun _ _ _ _ _ _ us hl => match us, hl with | [_, _, _], _ => rfl
  refine F.ok scMade (fun vs H Q E h => ?_) (fun cdv A outer s H vs Q E hr h => ⟨_, (pss_one (ps_ret (pe_make M GI (hr.mono (by decide)) (by rfl) gW bI .nil pass0 (pa_cons (pe_callTy call_tuple_of (by rfl) T.tuple (by decide +kernel) (pa_cons (pe_dget (units1 hr) (pv 0) pe_str (fun _ _ => rfl)) pa_nil)) (pa_cons (pe_callTy call_tuple_of (by rfl) T.tuple (by decide +kernel) (pa_cons (pe_dget (units1 hr) (pv 0) pe_str (fun _ _ => rfl)) pa_nil)) pa_nil))))), ?_⟩)
  · obtain ⟨d, ks, zs, rfl, _⟩ := h
    rfl
  · obtain ⟨d, ks, zs, rfl, pl, ok, k⟩ := h
    walk_at "rd"
    obtain ⟨⟨kp, tp, h1, h2, h3⟩, ta⟩ := pl
    unfold tMake
    walk_at "rd"
    have g1 : ∀ H', Ex H H' → DGet H' d (.str "places") (some (.ref kp)) := fun H' e => by
      have z := DGet.k (k := Sum.inr "places") (e _ _ h1)
      rw [valV_pos rfl] at z
      exact z
    have g2 : ∀ H', Ex H H' → DGet H' d (.str "ties") (some (.ref tp)) := fun H' e => by
      have z := DGet.k (k := Sum.inr "ties") (e _ _ h1)
      have ne : ¬ (Sum.inr ("places" : Str) : Key) = (Sum.inr ("ties" : Str) : Key) := by decide +kernel
      rw [valV_neg ne, valV_pos rfl] at z
      exact z
    unfold tDGet
    walk_at "rd"
    refine ⟨d, _, rfl, g1 H (Ex.refl H), ?_⟩
    walk_at "rd"
    refine ⟨kp, _, rfl, Or.inl ⟨SqL.of h2, fun p hp => ?_⟩⟩
    have e1 : Ex H (upd H p (.tup (ks.map V.str))) := Ex.new hp
    have p1 : (upd H p (.tup (ks.map V.str))) p = some (.tup (ks.map V.str)) := upd_same
    generalize upd H p (.tup (ks.map V.str)) = H1 at e1 p1 ⊢
    walk_at "rd"
    refine ⟨d, _, rfl, g2 H1 e1, ?_⟩
    walk_at "rd"
    refine ⟨tp, _, rfl, Or.inl ⟨SqL.of (e1 _ _ h3), fun q hq => ?_⟩⟩
    have e2 : Ex H1 (upd H1 q (.tup (rf zs))) := Ex.new hq
    have q2 : (upd H1 q (.tup (rf zs))) q = some (.tup (rf zs)) := upd_same
    generalize upd H1 q (.tup (rf zs)) = H2 at e2 q2 ⊢
    walk_at "rd"
    refine fun x dx hx hdx nx => ?_
    have e3 : Ex H2 (upd (upd H2 dx (.own x)) x (.ins C dx [])) := ((Ex.refl H2).mut hdx).mut hx
    refine ⟨x, p, q, dx, ks, zs, H2, rfl, hx, e3, upd_same, ⟨e2 _ _ p1, q2, ta.ex (e1.trans e2)⟩, ok, fun H' e4 wb => ⟨rfl, ?_⟩⟩
    have hn : H x = none := by
      cases c : H x with
      | none => rfl
      | some o =>
        have z := (e1.trans e2) _ _ c
        rw [hx] at z
        exact nomatch z
    exact k x H' ((e1.trans e2).trans e4) wb hn
end
end OwW


namespace OwW
open PySem PyProof.Rows L2 L2H OwX Rd Evl
abbrev sWPlaces : Stmt := mth 15 3
abbrev sWTies : Stmt := mth 15 4
abbrev sWNear : Stmt := mth 15 8
abbrev sNeedP : Stmt := top 17
abbrev sNeedW : Stmt := top 16
/-- what isinstance asks of a class -/
structure InsTy (K : PySem.W.Frag) (C : Addr) : Prop where
  cl : Cls K C
  ha : PySem.W.findIn K (.ref C) "__class__" = some (some (.builtin "object.__class__"))
  hn : PySem.W.specialIn K (.builtin "object.__class__") "__get__" = some (some (.builtin "getset_descriptor.__get__"))
  htk : PySem.W.takesIn K (.builtin "object.__class__") = some true
  hm : PySem.W.mroIn K C (.type "object") = some true
theorem InsTy.ty {K : PySem.W.Frag} {C a dx : Addr} {H : Hp} {fs : List (Str × V)} (I : InsTy K C) (h : H a = some (.ins C dx fs)) : TyOf K H (.ref a) (.ref C) := .ins h I.cl I.ha I.hn I.htk I.hm
def spWPlaces (C : Addr) : Sp := fun vs H Q _ => ∃ (a : Addr) (ks : List Str) (ys : TL), vs = [.ref a] ∧ IsWeb C H a ks ys ∧ ∀ p, H p = some (.tup (ks.map V.str)) → Q (.ref p) H
abbrev sWEq : Stmt := mth 15 21
def spWEq (C : Addr) : Sp := fun vs H Q _ => ∃ (a b : Addr) (ks ls : List Str) (ys zs : TL), vs = [.ref a, .ref b] ∧ IsWeb C H a ks ys ∧ IsWeb C H b ls zs ∧ Q (.bl (decide (ks = ls) && decide (ys.map (·.2) = zs.map (·.2)))) H
theorem beq_dec (a b : Str) : (a == b) = decide (a = b) := by
  by_cases c : a = b <;> simp [c]
theorem eqvAll_strs : ∀ l m : List Str, PyData.eqvAll (l.map PyData.str) (m.map PyData.str) = decide (l = m)
  | [], [] => by simp [PyData.eqvAll]
  | [], _ :: _ => by simp [PyData.eqvAll]
  | _ :: _, [] => by simp [PyData.eqvAll]
  | a :: l, b :: m => by
    have z := eqvAll_strs l m
    simp [PyData.eqvAll, PyData.eqv, z, beq_dec]
theorem eqvAll_pairs : ∀ l m : List (Str × Str), PyData.eqvAll (l.map pairD) (m.map pairD) = decide (l = m)
  | [], [] => by simp [PyData.eqvAll]
  | [], _ :: _ => by simp [PyData.eqvAll]
  | _ :: _, [] => by simp [PyData.eqvAll]
  | (a, c) :: l, (b, d) :: m => by
    have z := eqvAll_pairs l m
    simp [PyData.eqvAll, PyData.eqv, pairD, z, beq_dec, Bool.and_assoc]
theorem shaped_pairsT {ts : List (Str × Str)} (h : ∀ t ∈ ts, nameB t.1 = true ∧ nameB t.2 = true) : SeqAt.shaped (.tuple (ts.map pairD)) = true := by
  obtain ⟨a, b⟩ := lay_pairs h
  simp [SeqAt.shaped, PyData.canLay0, PyData.depth, a]
  omega
def spWTies (C : Addr) : Sp := fun vs H Q _ => ∃ (a : Addr) (ks : List Str) (ys : TL), vs = [.ref a] ∧ IsWeb C H a ks ys ∧ ∀ p, H p = some (.tup (rf ys)) → TA H ys → Q (.ref p) H
/-- need_place where the place is one -/
def spNeedP (C : Addr) : Sp := fun vs H Q _ => ∃ (a : Addr) (ks : List Str) (ys : TL) (x : Str), vs = [.ref a, .str x] ∧ IsWeb C H a ks ys ∧ x ∈ ks ∧ Q .non H
/-- neighbours of a place -/
def spWNear (C : Addr) : Sp := fun vs H Q _ => ∃ (a : Addr) (ks : List Str) (ys : TL) (x : Str), vs = [.ref a, .str x] ∧ IsWeb C H a ks ys ∧ x ∈ ks ∧ ∀ (p : Addr) (es : List Str), H p = some (.tup (es.map V.str)) → es.Perm (endsL (ys.map (·.2)) x) → sortedS es = true → Q (.ref p) H
/-- need_web where it is one -/
def spNeedW (C : Addr) : Sp := fun vs H Q _ => ∃ (a : Addr) (ks : List Str) (ys : TL), vs = [.ref a] ∧ IsWeb C H a ks ys ∧ Q .non H
section
variable {P : Program} {w : World} {K : PySem.W.Frag} {mg : Str → Option Value} {base : Heap}
theorem scWPlaces : FnScope ["self"] ["self"] (defScope sWPlaces) := ⟨rfl, rfl, rfl, by decide +kernel, rfl, by decide +kernel, by decide +kernel⟩
theorem ok_wplaces {f C : Addr} {fd : FuncData} (F : Fun K "places" "Web.places" sWPlaces f fd) (WK : WebK K C) : FnOk P w K mg base CX0 1 f fd ["self"] (spWPlaces C) := by
  have nd := scWPlaces.nd
  refine F.ok scWPlaces (fun vs H Q E h => ?_) (fun cdv A outer s H vs Q E hr h => ⟨_, (pss_one (ps_ret (pe_fld (pv 0) rfl))), ?_⟩)
  · obtain ⟨a, ks, ys, rfl, _⟩ := h
    rfl
  · obtain ⟨a, ks, ys, rfl, wb, k⟩ := h
    obtain ⟨dx, p, q, n, nl, h1, wa, h3, h4, h5⟩ := wb.at_
    walk_at "rd"
    exact ⟨_, rfl, a, C, dx, _, .ref p, rfl, h1, WK.cls, WK.np, rfl, k p wa.ps⟩
theorem scWTies : FnScope ["self"] ["self"] (defScope sWTies) := ⟨rfl, rfl, rfl, by decide +kernel, rfl, by decide +kernel, by decide +kernel⟩
theorem ok_wties {f C : Addr} {fd : FuncData} (F : Fun K "ties" "Web.ties" sWTies f fd) (WK : WebK K C) : FnOk P w K mg base CX0 1 f fd ["self"] (spWTies C) := by
  have nd := scWTies.nd
  refine F.ok scWTies (fun vs H Q E h => ?_) (fun cdv A outer s H vs Q E hr h => ⟨_, (pss_one (ps_ret (pe_fld (pv 0) rfl))), ?_⟩)
  · obtain ⟨a, ks, ys, rfl, _⟩ := h
    rfl
  · obtain ⟨a, ks, ys, rfl, wb, k⟩ := h
    obtain ⟨dx, p, q, n, nl, h1, wa, h3, h4, h5⟩ := wb.at_
    walk_at "rd"
    exact ⟨_, rfl, a, C, dx, _, .ref q, rfl, h1, WK.cls, WK.nt, rfl, k q wa.ts wa.ta⟩
theorem scNeedP : FnScope ["web", "place"] ["web", "place"] (defScope sNeedP) := ⟨rfl, rfl, rfl, by decide +kernel, rfl, by decide +kernel, by decide +kernel⟩
theorem ok_needp {f g C pp : Addr} {fd gd : FuncData} (F : Fun K "need_place" "need_place" sNeedP f fd) (FP : Fun K "places" "Web.places" sWPlaces g gd) (PP : PropOf K C "places" pp g) (GP : FnOk P w K mg base CX0 1 g gd ["self"] (spWPlaces C)) (WK : WebK K C) : FnOk P w K mg base CX0 3 f fd ["web", "place"] (spNeedP C) := by
  have nd := scNeedP.nd
  have bP : Binds K gd ["self"] [] := FP.binds fun _ _ _ _ _ _ us hl => match us, hl with | [_], _ => rfl
  refine F.ok scNeedP (fun vs H Q E h => ?_) (fun cdv A outer s H vs Q E hr h => ⟨_, (pss_one (ps_if (pt_cmpR op_notIn_seq (pv 1) (pe_prop (pv 0) WK.cls PP GP (hr.mono (by decide)) bP .nil pass0 rfl) (by with_unfolding_all rfl)) pss_dead pss_nil)), ?_⟩)
  · obtain ⟨a, ks, ys, x, rfl, _⟩ := h
    rfl
  · obtain ⟨a, ks, ys, x, rfl, wb, hx, k⟩ := h
    walk_at "rd"
    obtain ⟨dx, p, q, n, nl, h1, wa, h3, h4, h5⟩ := wb.at_
    unfold tProp
    walk_at "rd"
    refine ⟨a, dx, _, rfl, h1, a, ks, ys, rfl, wb, fun p hp => ?_⟩
    refine ⟨p, _, rfl, Or.inr (SqT.of hp), rfl, flat_strs ks, ?_⟩
    have z : (if true = true then !inV (.str x) (ks.map V.str) else inV (.str x) (ks.map V.str)) = false := by
      rw [if_pos rfl, in_strs hx]
      rfl
    rw [z]
    exact ⟨false, rfl, k⟩
theorem scWNear : FnScope ["self", "place"] ["self", "place"] (defScope sWNear) := ⟨rfl, rfl, rfl, by decide +kernel, rfl, by decide +kernel, by decide +kernel⟩
theorem ent_some : ∀ {nl : List (Str × Addr × List Str)} {k : Str}, k ∈ nl.map (·.1) → ∃ t ∈ nl, t.1 = k ∧ valV (nl.map ent) (Sum.inr k) = some (.ref t.2.1)
  | [], _, h => nomatch h
  | t :: nl, k, h => by
    by_cases c : t.1 = k
    · refine ⟨t, List.mem_cons_self, c, ?_⟩
      rw [List.map_cons, valV_pos (by unfold ent; rw [c])]
      rfl
    · rw [List.map_cons] at h
      rcases List.mem_cons.mp h with e | h
      · exact absurd e.symm c
      · obtain ⟨u, hu, e, z⟩ := ent_some h
        refine ⟨u, List.mem_cons_of_mem _ hu, e, ?_⟩
        rw [List.map_cons, valV_neg (fun e' => c (Sum.inr.inj e'))]
        exact z
theorem ok_wnear {f g C : Addr} {fd gd : FuncData} (F : Fun K "neighbours" "Web.neighbours" sWNear f fd) (FN : Fun K "need_place" "need_place" sNeedP g gd) (gN : mg "need_place" = some (.ref g)) (GN : FnOk P w K mg base CX0 3 g gd ["web", "place"] (spNeedP C)) (WK : WebK K C) : FnOk P w K mg base CX0 4 f fd ["self", "place"] (spWNear C) := by
  have nd := scWNear.nd
  have bN : Binds K gd ["web", "place"] [] := FN.binds fun _ _ _ _ _ _ us hl => match us, hl with | [_, _], _ => rfl
  refine F.ok scWNear (fun vs H Q E h => ?_) (fun cdv A outer s H vs Q E hr h => ⟨_, (pss_cons (ps_expr (pe_call GN (hr.mono (by decide)) (by rfl) gN FN.kp bN .nil pass0 (pa_cons (pv 0) (pa_cons (pv 1) pa_nil))))
    (pss_one (ps_ret (pe_dget (units1 hr) (pe_fld (pv 0) rfl) (pv 1) (fun _ _ => rfl))))), ?_⟩)
  · obtain ⟨a, ks, ys, x, rfl, _⟩ := h
    rfl
  · obtain ⟨a, ks, ys, x, rfl, wb, hx, k⟩ := h
    walk_at "rd"
    obtain ⟨dx, p, q, n, nl, h1, wa, h3, h4, h5⟩ := wb.at_
    refine ⟨a, ks, ys, x, rfl, wb, hx, ?_⟩
    walk_at "rd"
    obtain ⟨t, ht, e, z⟩ := ent_some (nl := nl) (k := x) (by rw [h4]; exact hx)
    have dg := DGet.k (k := Sum.inr x) h3
    rw [z] at dg
    have nk := h5 t ht
    unfold tDGet tFld
    walk_at "rd"
    exact ⟨a, C, dx, _, .ref n, rfl, h1, WK.cls, WK.nn, rfl, _, rfl, n, _, rfl, dg, k t.2.1 t.2.2 nk.at_ (by rw [← e]; exact nk.pm) nk.so⟩
theorem scNeedW : FnScope ["web"] ["web"] (defScope sNeedW) := ⟨rfl, rfl, rfl, by decide +kernel, rfl, by decide +kernel, by decide +kernel⟩
theorem ok_needw {f C : Addr} {fd : FuncData} (F : Fun K "need_web" "need_web" sNeedW f fd) (gW : mg "Web" = some (.ref C)) (kC : PySem.W.kitOne K (.ref C) (.ref C) = some true) (WT : InsTy K C) (T : BltB mg) : FnOk P w K mg base CX0 1 f fd ["web"] (spNeedW C) := by
  have nd := scNeedW.nd
  refine F.ok scNeedW (fun vs H Q E h => ?_) (fun cdv A outer s H vs Q E hr h => ⟨_, (pss_one (ps_if (pt_not (pt_val (pe_callB call_isi (by rfl) T.isinst (by decide +kernel) (pa_cons (pv 0) (pa_cons (pe_glob (v := .ref C) (by rfl) gW rfl) pa_nil))) (fun _ => rfl))) pss_dead pss_nil)), ?_⟩)
  · obtain ⟨a, ks, ys, rfl, _⟩ := h
    rfl
  · obtain ⟨a, ks, ys, rfl, wb, k⟩ := h
    obtain ⟨dx, p, q, n, nl, h1, wa, h3, h4, h5⟩ := wb.at_
    have tW : TyOf K H (.ref a) (.ref C) := WT.ty h1
    walk_at "rd"
    refine ⟨.ref a, .ref C, .ref C, .ref C, true, rfl, .own C, .base tW, kC, true, rfl, ?_⟩
    exact k
theorem scWEq : FnScope ["self", "other"] ["self", "other"] (defScope sWEq) := ⟨rfl, rfl, rfl, by decide +kernel, rfl, by decide +kernel, by decide +kernel⟩
theorem ok_weq {f C : Addr} {fd : FuncData} (F : Fun K "__eq__" "Web.__eq__" sWEq f fd) (gW : mg "Web" = some (.ref C)) (kC : PySem.W.kitOne K (.ref C) (.ref C) = some true) (WT : InsTy K C) (WK : WebK K C) (T : BltB mg) : FnOk P w K mg base CX0 1 f fd ["self", "other"] (spWEq C) := by
  have nd := scWEq.nd
  refine F.ok scWEq (fun vs H Q E h => ?_) (fun cdv A outer s H vs Q E hr h => ⟨_, (pss_one (ps_ret (pe_and (pe_callB call_isi (by rfl) T.isinst (by decide +kernel) (pa_cons (pv 1) (pa_cons (pe_glob (v := .ref C) (by rfl) gW rfl) pa_nil))) (pe_and (pe_cmpR (op_eqD hr.units) (pe_fld (pv 0) rfl) (pe_fld (pv 1) rfl) (nomark _)) (pe_one (pe_cmpR (op_eqD hr.units) (pe_fld (pv 0) rfl) (pe_fld (pv 1) rfl) (nomark _))))))), ?_⟩)
  · obtain ⟨a, b, ks, ls, ys, zs, rfl, _⟩ := h
    rfl
  · obtain ⟨a, b, ks, ls, ys, zs, rfl, wa, wb, k⟩ := h
    obtain ⟨dx, p, q, n, nl, h1, w1, _⟩ := wa.at_
    obtain ⟨dy, p', q', n', nl', h2, w2, _⟩ := wb.at_
    have tW : TyOf K H (.ref b) (.ref C) := WT.ty h2
    walk_at "rd"
    refine Rd.andv ?_
    walk_at "rd"
    refine ⟨.ref b, .ref C, .ref C, .ref C, true, rfl, .own C, .base tW, kC, true, rfl, ?_⟩
    refine Rd.iteT rfl (Rd.andv ?_)
    unfold tOp tFld
    walk_at "rd"
    refine ⟨a, C, dx, _, .ref p, rfl, h1, WK.cls, WK.np, rfl, ?_⟩
    walk_at "rd"
    refine ⟨b, C, dy, _, .ref p', rfl, h2, WK.cls, WK.np, rfl, ?_⟩
    refine ⟨.tuple (ks.map PyData.str), .tuple (ls.map PyData.str), .tup (SqT.of w1.ps) (dp_strsT ks), .tup (SqT.of w2.ps) (dp_strsT ls), shaped_tup wa.ok.names, shaped_tup wb.ok.names, ?_⟩
    have e1 : PyData.eqv (.tuple (ks.map PyData.str)) (.tuple (ls.map PyData.str)) = decide (ks = ls) := by simp [PyData.eqv, eqvAll_strs]
    have e2 : PyData.eqv (.tuple ((ys.map (·.2)).map pairD)) (.tuple ((zs.map (·.2)).map pairD)) = decide (ys.map (·.2) = zs.map (·.2)) := by simp only [PyData.eqv, eqvAll_pairs]
    rw [e1]
    refine ⟨_, rfl, ?_⟩
    by_cases c : ks = ls
    · rw [decide_eq_true c, Bool.true_and] at k
      rw [decide_eq_true c]
      refine Rd.iteT rfl ?_
      walk_at "rd"
      refine ⟨a, C, dx, _, .ref q, rfl, h1, WK.cls, WK.nt, rfl, ?_⟩
      walk_at "rd"
      refine ⟨b, C, dy, _, .ref q', rfl, h2, WK.cls, WK.nt, rfl, ?_⟩
      have n1 : ∀ t ∈ ys.map (·.2), nameB t.1 = true ∧ nameB t.2 = true := fun t ht => ⟨wa.ok.names _ (wa.ok.ends t ht).1, wa.ok.names _ (wa.ok.ends t ht).2.1⟩
      have n2 : ∀ t ∈ zs.map (·.2), nameB t.1 = true ∧ nameB t.2 = true := fun t ht => ⟨wb.ok.names _ (wb.ok.ends t ht).1, wb.ok.names _ (wb.ok.ends t ht).2.1⟩
      refine ⟨.tuple ((ys.map (·.2)).map pairD), .tuple ((zs.map (·.2)).map pairD), .tup (SqT.of w1.ts) (dp_pairs w1.ta), .tup (SqT.of w2.ts) (dp_pairs w2.ta), shaped_pairsT n1, shaped_pairsT n2, ?_⟩
      rw [e2]
      exact k
    · rw [decide_eq_false c, Bool.false_and] at k
      rw [decide_eq_false c]
      refine Rd.iteF (by decide) ?_
      exact k
end
end OwW

/-! {x for a in .. for b in a}: a set of texts by two fors. -/
namespace OwSc
open PySem PySem.Spec PyProof.Rows L2 OwT
/-- the comprehension itself -/
abbrev two (e ta ia : Expr) (ca : List Expr) (tb ib : Expr) (cb : List Expr) (sc : Scope) (p : Pos) : Expr := .SetComp e [⟨ta, ia, ca, 0⟩, ⟨tb, ib, cb, 0⟩] sc p
section
variable {prog : Program} {w : World} {A : Around} {R : Result → Shared → Prop} {s : Shared} {e ta ia tb ib : Expr} {ca cb : List Expr} {sc : Scope} {p : Pos} {it acc : Value} {ρ : Env}
/-- all tests of a clause, one after another -/
abbrev asked (cs : List Expr) (ρ : Env) : Sem Bool := forIn cs true fun c r => if r = true then (do let b ← isTrue c ρ (eval c ρ); pure (ForInStep.yield b)) else pure (ForInStep.yield r)
theorem outer_is : compTurn (two e ta ia ca tb ib cb sc p) 0 it acc ρ = (do
      standAt ia.pos
      match ← pyNext it with | none => pure (.done .next) | some v => (do letOwnedTupleGo ta it v; assign ta ρ v; let b ← asked ca ρ; if b then (do let x ← eval ib ρ; standAt ib.pos; let x ← foldedSetIterable ib ρ x; let _ ← runOwn (.compStart (two e ta ia ca tb ib cb sc p) 1 (← holding [x] (pyIter x)) acc ρ) ρ; again (.compLoop (two e ta ia ca tb ib cb sc p) 0 it acc ρ)) else again (.compLoop (two e ta ia ca tb ib cb sc p) 0 it acc ρ))) := by rfl
theorem inner_is : compTurn (two e ta ia ca tb ib cb sc p) 1 it acc ρ = (do
      standAt ib.pos
      match ← pyNext it with | none => pure (.done .next) | some v => (do letOwnedTupleGo tb it v; assign tb ρ v; let b ← asked cb ρ; if b then (do (do let x ← eval e ρ; standAt e.pos; let _ ← call (.builtin "set.add") [acc, x]); again (.compLoop (two e ta ia ca tb ib cb sc p) 1 it acc ρ)) else again (.compLoop (two e ta ia ca tb ib cb sc p) 1 it acc ρ))) := by rfl
/-- what an error of a turn owes -/
abbrev nb (prog : Program) (w : World) (A : Around) (R : Result → Shared → Prop) (ρ : Env) : Value → Shared → Prop := notedBy (model prog w) A ρ fun x s' => R (.error x) s'
/-- a turn of the first clause: the step J where its items end, else the turn's parts -/
theorem outer_run (pure_ : ∀ x, foldedSetIterable ib ρ x = pure x) (J : Nat → Shared → Prop)
    (step : ∀ n s, J n s → wpAny (model prog w) A (pyNext it) (fun r s1 => match r with
      | none => R (.ok .next) s1
      | some v => wpAny (model prog w) A (letOwnedTupleGo ta it v) (fun _ s2 => wpAny (model prog w) A (assign ta ρ v) (fun _ s3 => wpAny (model prog w) A (asked ca ρ) (fun b s4 =>
          if b = true then wpAny (model prog w) A (eval ib ρ) (fun x s5 => wpAny (model prog w) A (pyIter x) (fun jt s6 =>
              codeAny (model prog w) A (.compStart (two e ta ia ca tb ib cb sc p) 1 jt acc ρ) (fun r s' => match r with | .ok _ => ∃ m, m < n ∧ J m s' | .error _ => False) s6) (nb prog w A R ρ) s5) (nb prog w A R ρ) s4
          else ∃ m, m < n ∧ J m s4) (nb prog w A R ρ) s3) (nb prog w A R ρ) s2) (nb prog w A R ρ) s1) (nb prog w A R ρ) s)
    (n : Nat) (h : J n s) : codeAny (model prog w) A (.compLoop (two e ta ia ca tb ib cb sc p) 0 it acc ρ) R s := by
  refine codeAny_loop rfl J (fun n s hJ => ?_) n h
  show wpAny _ A ((compTurn (two e ta ia ca tb ib cb sc p) 0 it acc ρ).onRaise (fun x => do noteFrame x ρ; theTreesLotGoes x)) _ _ s
  refine wpAny_noted ?_
  rw [outer_is]
  refine wpAny_bind (wpAny_standAt (wpAny_bind (wpAny_mono (step n s hJ) (fun r s1 h1 => ?_) fun _ _ z => z)))
  rcases r with _ | v
  · exact wpAny_pure h1
  refine wpAny_bind (wpAny_mono h1 (fun _ s2 h2 => ?_) fun _ _ z => z)
  refine wpAny_bind (wpAny_mono h2 (fun _ s3 h3 => ?_) fun _ _ z => z)
  refine wpAny_bind (wpAny_mono h3 (fun b s4 h4 => ?_) fun _ _ z => z)
  cases b
  · exact wpAny_pure ⟨rfl, h4⟩
  · refine wpAny_bind (wpAny_mono h4 (fun x s5 h5 => wpAny_bind (wpAny_standAt (wpAny_bind (wpAny_of_eq (pure_ x) ?_)))) fun _ _ z => z)
    refine wpAny_bind (wpAny_holding (wpAny_mono h5 (fun jt s6 h6 => wpAny_bind (wpAny_runOwn ?_)) fun _ _ z => z))
    rw [Around.mark_none]
    refine codeAny_mono h6 fun r s' hr => ?_
    rcases r with er | fl
    · exact hr.elim
    · first | exact wpAny_pure ⟨rfl, hr⟩ | exact wpAny_bind (wpAny_pure (wpAny_pure ⟨rfl, hr⟩))
/-- a turn of the second -/
theorem inner_run (J : Nat → Shared → Prop)
    (step : ∀ n s, J n s → wpAny (model prog w) A (pyNext it) (fun r s1 => match r with
      | none => R (.ok .next) s1
      | some v => wpAny (model prog w) A (letOwnedTupleGo tb it v) (fun _ s2 => wpAny (model prog w) A (assign tb ρ v) (fun _ s3 => wpAny (model prog w) A (asked cb ρ) (fun b s4 =>
          if b = true then wpAny (model prog w) A (eval e ρ) (fun x s5 => wpAny (model prog w) A (call (.builtin "set.add") [acc, x]) (fun _ s6 => ∃ m, m < n ∧ J m s6) (nb prog w A R ρ) s5) (nb prog w A R ρ) s4
          else ∃ m, m < n ∧ J m s4) (nb prog w A R ρ) s3) (nb prog w A R ρ) s2) (nb prog w A R ρ) s1) (nb prog w A R ρ) s)
    (n : Nat) (h : J n s) : codeAny (model prog w) A (.compLoop (two e ta ia ca tb ib cb sc p) 1 it acc ρ) R s := by
  refine codeAny_loop rfl J (fun n s hJ => ?_) n h
  show wpAny _ A ((compTurn (two e ta ia ca tb ib cb sc p) 1 it acc ρ).onRaise (fun x => do noteFrame x ρ; theTreesLotGoes x)) _ _ s
  refine wpAny_noted ?_
  rw [inner_is]
  refine wpAny_bind (wpAny_standAt (wpAny_bind (wpAny_mono (step n s hJ) (fun r s1 h1 => ?_) fun _ _ z => z)))
  rcases r with _ | v
  · exact wpAny_pure h1
  refine wpAny_bind (wpAny_mono h1 (fun _ s2 h2 => ?_) fun _ _ z => z)
  refine wpAny_bind (wpAny_mono h2 (fun _ s3 h3 => ?_) fun _ _ z => z)
  refine wpAny_bind (wpAny_mono h3 (fun b s4 h4 => ?_) fun _ _ z => z)
  cases b
  · exact wpAny_pure ⟨rfl, h4⟩
  · refine wpAny_bind (wpAny_bind (wpAny_mono h4 (fun x s5 h5 => wpAny_bind (wpAny_standAt (wpAny_bind (wpAny_mono h5 (fun _ s6 h6 => ?_) fun _ _ z => z)))) fun _ _ z => z))
    exact wpAny_pure (wpAny_pure ⟨rfl, h6⟩)
/-- the second clause begins -/
theorem inner_start (h0 : codeAny (model prog w) A (.compLoop (two e ta ia ca tb ib cb sc p) 1 it acc ρ) R s)
    (h : wpAny (model prog w) A (pyIter it) (fun jt s' => codeAny (model prog w) A (.compLoop (two e ta ia ca tb ib cb sc p) 1 jt acc ρ) R s') (nb prog w A R ρ) s) :
    codeAny (model prog w) A (.compStart (two e ta ia ca tb ib cb sc p) 1 it acc ρ) R s := by
  refine codeAny_of_tree ?_
  show wpAny _ _ ((compStart (two e ta ia ca tb ib cb sc p) 1 it acc ρ).onRaise (fun x => do noteFrame x ρ; standAt theWindowsPlace)) _ _ s
  refine wpAny_notedAt ?_
  unfold compStart
  show wpAny _ _ (ask >>= _) _ _ s
  refine wpAny_bind (wpAny_askSetting (wpAny_ite ?_))
  split
  · first | exact wpAny_pure ⟨rfl, h0⟩ | exact wpAny_bind (wpAny_pure (wpAny_pure ⟨rfl, h0⟩))
  · refine wpAny_bind (wpAny_rule ?_)
    first
      | exact wpAny_bind (wpAny_standAt (wpAny_bind (wpAny_mono h (fun _ _ z => wpAny_pure ⟨rfl, z⟩) fun _ _ z => z)))
      | (show wpAny _ _ (standAt ib.pos >>= _) _ _ s; exact wpAny_bind (wpAny_standAt (wpAny_bind (wpAny_mono h (fun _ _ z => wpAny_pure ⟨rfl, z⟩) fun _ _ z => z))))
end
section
variable {X : Cx} {pins : List (Addr × Obj)} {σ : L2.St} {H : Hp} {s : Shared}
/-- s.add(k) of a tracked set of texts -/
theorem addT_ok {E : Value → Shared → Prop} {D : Addr} {l : List Str} {k : Str} {u : Tok} {Q : Value → Shared → Prop} (I : Inv X pins σ H s) (hD : H D = some (TxO X.prog X.w D l)) (room : l.length + 1 < scanBound)
    (h : ∀ s', Inv X pins σ (upd H D (TxO X.prog X.w D (more l k))) s' → Q .none s') : wpAny (model X.prog X.w) X.A (call (.builtin "set.add") [.ref D, .str k u]) Q E s := by
  have T := txO_at I hD
  have ⟨D0, g, _⟩ := T
  have ty : Shared.TypeIs s (.ref D) "set" := ⟨_, g, rfl⟩
  refine wpAny_call_entry F.slot_set_add ty F.entry_set_add ?_ (F.args_set_add_2 _ _)
  unfold Builtin.«set.add» Builtin.Frozenset.oneOther
  simp only [List.isEmpty_nil, bind_assoc]
  unfold Builtin.Frozenset.addrOf
  refine wpAny_bind (wpAny_pure ?_)
  try dsimp only
  refine wpAny_bind (wpAny_pure ?_)
  try dsimp only
  refine wpAny_bind (add_one T room fun b h' kp T' => ?_)
  have ⟨D1, g1, _⟩ := T'
  show wpAny _ _ (ret Value.none) _ _ _
  exact wpAny_pure ⟨_, rfl, h _ (I.write (e := D) (t' := s.toks + 1) (by rw [hD]; trivial) (.inl rfl) (fun b u hb hu => (kp b hb u hu)) ⟨_, g1⟩ (txO_ok T'))⟩
theorem fresh_set (P : Program) (w : World) (h : Heap) : TxS P w (h.push (fresh w)) h.objs.size [] :=
  ⟨(#[], 0, .fresh 0 0 (!w.params.followText "set-order")), Heap.get?_push_size _ rfl, Froz.TxOk.nil rfl, List.nodup_nil, List.Pairwise.nil, fresh_led w⟩
/-- {e for ta in ia for tb in ib}: D the new set; behind the first clause's store the second one's own walk, which ends in Nx -/
def tSc2 (P : Program) (w : World) (wi : TI) (g : TG) (wj : TI) (gj : TG) (te : TE) (vs us : List Nat) : TE := fun σ H Q => wi σ H fun J H1 => ∀ D, H1 D = none → ∃ W : Nat → Nat → Hp → Prop, (∃ m, W 0 m (upd H1 D (TxO P w D []))) ∧ ∀ i m H, W i m H →
  (J.stop i H ∧ Q (.ref D) H) ∨ (J.go i H ∧ ∃ Nx : Hp → Prop, (∀ H', Nx H' → ∃ m', m' < m ∧ W (i + 1) m' H') ∧ ∀ x H', J.yld i H x H' → g x (wipe σ vs) H' fun σ2 H2 => wipe σ2 vs = wipe σ vs ∧
    wj σ2 H2 fun J' H3 => ∃ U : Nat → Nat → Hp → Prop, (∃ k, U 0 k H3) ∧ ∀ j k H, U j k H →
      (J'.stop j H ∧ Nx H) ∨ (J'.go j H ∧ ∃ Ny : Hp → Prop, (∀ H', Ny H' → ∃ k', k' < k ∧ U (j + 1) k' H') ∧ ∀ y H', J'.yld j H y H' → gj y (wipe σ2 us) H' fun σ3 H4 => wipe σ3 us = wipe σ2 us ∧
        te σ3 H4 fun z H5 => ∃ (t : Str) (l : List Str), z = .str t ∧ H5 D = some (TxO P w D l) ∧ l.length + 1 < scanBound ∧ Ny (upd H5 D (TxO P w D (more l t)))))
theorem pe_sc2 {e ta ia tb ib : Expr} {sc : Scope} {own : List (Str × Nat)} {us : List Nat} {p : Pos} {wi wj : TI} {g gj : TG} {te : TE} (hc : X.calm = true) (hN : X.N.Nodup) (pa : PI X ta ia wi) (ok : BlkOk X.N X.env.scope sc own) (hu : ∀ i ∈ us, i ∈ own.map (·.2))
    (ga : ∀ (s : Shared) (H : Hp) (C : Addr) (cl : List (Str × Addr)) (fp : List Addr), PG (X.blk s H sc (compEnvC sc cl C X.env) fp) ta g)
    (pb : ∀ (s : Shared) (H : Hp) (C : Addr) (cl : List (Str × Addr)) (fp : List Addr), PI (X.blk s H sc (compEnvC sc cl C X.env) fp) tb ib wj)
    (gb : ∀ (s : Shared) (H : Hp) (C : Addr) (cl : List (Str × Addr)) (fp : List Addr), PG (X.blk s H sc (compEnvC sc cl C X.env) fp) tb gj)
    (pt : ∀ (s : Shared) (H : Hp) (C : Addr) (cl : List (Str × Addr)) (fp : List Addr), PE (X.blk s H sc (compEnvC sc cl C X.env) fp) e te)
    (fa : ∀ x, foldedSetIterable ia X.env x = pure x := by intro _; rfl) (fb : ∀ ρ x, foldedSetIterable ib ρ x = pure x := by intro _ _; rfl) :
    PE X (two e ta ia [] tb ib [] sc p) (tSc2 X.prog X.w wi g wj gj te (own.map (·.2)) us) := by
  refine ⟨fun pins s σ H Q I h => ?_⟩
  have cellsOk : ∀ y ∈ sc.names, y.2 = .free → ∃ c, X.env.cells.lookup y.1 = some c := fun y hy z => (ok.free y hy z).elim (fun k => I.ok.has _ (.inl k)) fun k => I.ok.has _ (.inr k)
  rw [PpSet.eval_SetComp]
  refine wpAny_comprehension_free (use := none) rfl fa (closure_ok cellsOk) ok.kind (fun y hy z => by rw [ok.uniq y hy, z]) (thn (pa.run pins s σ H _ I h) fun xv s1 hx => thn hx fun _ s2 h2 => ?_)
  obtain ⟨it, fp, tn, J, H2, rfl, I2, T, st2, f2, q⟩ := h2
  refine PpSet.newSet_ok (newEnv_comp ?_)
  -- the set, then the block's own dict
  have q1 := q s2.heap.objs.size (I2.hok.fresh (Nat.le_refl _))
  have I3 : Inv X pins σ (upd H2 s2.heap.objs.size (TxO X.prog X.w s2.heap.objs.size [])) { s2 with heap := s2.heap.push (fresh X.w) } :=
    I2.laid (t' := s2.toks) (fun _ _ z => Heap.get?_push_of_some _ z) (Nat.le_refl _) (txO_ok (fresh_set X.prog X.w s2.heap))
  have lt : ∀ b ∈ fp, b < s2.heap.objs.size := fun b hb => (T.obj _ _ st2 b hb).elim fun _ z => Heap.lt_size z.1
  generalize hD : s2.heap.objs.size = D at q1 I3 lt ⊢
  have f3 : ∀ b ∈ fp, FpOk X pins (upd H2 D (TxO X.prog X.w D [])) b ∧ b < (s2.heap.push (fresh X.w)).objs.size := fun b hb =>
    ⟨⟨(upd_ne (Nat.ne_of_lt (lt b hb))).trans (f2 b hb).1, (f2 b hb).2⟩, by rw [Heap.size_push, hD]; exact Nat.lt_succ_of_lt (lt b hb)⟩
  have st3 : tn 0 (s2.heap.push (fresh X.w)) := T.keep _ _ _ st2 fun _ _ _ z => Heap.get?_push_of_some _ z
  obtain ⟨W, ⟨m0, w0⟩, turn⟩ := q1
  show codeAny _ _ (.compStart (two e ta ia [] tb ib [] sc p) 0 (.ref it) (.ref D) (compEnvC sc (cellsFrom ((s2.heap.push (fresh X.w)).objs.size + 1) sc.names (cloFrom X.env.cells sc.names [])) (s2.heap.push (fresh X.w)).objs.size X.env))
    (compPost (model X.prog X.w) X.A X.xe none (EP X pins σ Q) (.ref D) (s2.heap.push (fresh X.w)).objs.size) { s2 with heap := pushCells ((s2.heap.push (fresh X.w)).push { cls := .type "dict", data := .dict #[] }) sc.names }
  have I4 := block_start I3 ok hN f3
  have g0 := ga { s2 with heap := s2.heap.push (fresh X.w) } (upd H2 D (TxO X.prog X.w D [])) (s2.heap.push (fresh X.w)).objs.size (cellsFrom ((s2.heap.push (fresh X.w)).objs.size + 1) sc.names (cloFrom X.env.cells sc.names [])) fp
  have b0 := pb { s2 with heap := s2.heap.push (fresh X.w) } (upd H2 D (TxO X.prog X.w D [])) (s2.heap.push (fresh X.w)).objs.size (cellsFrom ((s2.heap.push (fresh X.w)).objs.size + 1) sc.names (cloFrom X.env.cells sc.names [])) fp
  have gb0 := gb { s2 with heap := s2.heap.push (fresh X.w) } (upd H2 D (TxO X.prog X.w D [])) (s2.heap.push (fresh X.w)).objs.size (cellsFrom ((s2.heap.push (fresh X.w)).objs.size + 1) sc.names (cloFrom X.env.cells sc.names [])) fp
  have t0 := pt { s2 with heap := s2.heap.push (fresh X.w) } (upd H2 D (TxO X.prog X.w D [])) (s2.heap.push (fresh X.w)).objs.size (cellsFrom ((s2.heap.push (fresh X.w)).objs.size + 1) sc.names (cloFrom X.env.cells sc.names [])) fp
  have here : (compEnvC sc (cellsFrom ((s2.heap.push (fresh X.w)).objs.size + 1) sc.names (cloFrom X.env.cells sc.names [])) (s2.heap.push (fresh X.w)).objs.size X.env).locals = (s2.heap.push (fresh X.w)).objs.size := rfl
  have st4 : tn 0 (pushCells ((s2.heap.push (fresh X.w)).push { cls := .type "dict", data := .dict #[] }) sc.names) := T.keep _ _ _ st3 fun _ _ _ z => pushCells_keeps _ _ _ _ (Heap.get?_push_of_some _ z)
  generalize compEnvC sc (cellsFrom ((s2.heap.push (fresh X.w)).objs.size + 1) sc.names (cloFrom X.env.cells sc.names [])) (s2.heap.push (fresh X.w)).objs.size X.env = ρ at I4 g0 b0 gb0 t0 here ⊢
  generalize hH : upd H2 D (TxO X.prog X.w D []) = H3 at I3 I4 g0 b0 gb0 t0 w0 f3
  generalize hS : ({ s2 with heap := s2.heap.push (fresh X.w) } : Shared) = S at I3 I4 g0 b0 gb0 t0
  have hSh : S.heap = s2.heap.push (fresh X.w) := by rw [← hS]
  rw [← hSh] at here f3 ⊢
  have I4' : Inv (X.blk S H3 sc ρ fp) [] (wipe σ (own.map (·.2))) H3 { s2 with heap := pushCells (S.heap.push { cls := .type "dict", data := .dict #[] }) sc.names } := by rw [← hS] at I4 ⊢; exact I4
  have st5 : tn 0 ({ s2 with heap := pushCells (S.heap.push { cls := .type "dict", data := .dict #[] }) sc.names } : Shared).heap := by rw [hSh]; exact st4
  clear I4 st4
  generalize ({ s2 with heap := pushCells (S.heap.push { cls := .type "dict", data := .dict #[] }) sc.names } : Shared) = s4 at I4' st5 ⊢
  have stand : ∀ {pl : List (Addr × Obj)} {τ : L2.St} {H' : Hp} {s' : Shared}, Inv (X.blk S H3 sc ρ fp) pl τ H' s' → pl = [] → (∀ b ∈ fp, H' b = none) → ∀ b ∈ fp, FpOk (X.blk S H3 sc ρ fp) pl H' b := fun {pl τ H' s'} K e n b hb => by
    subst e
    exact ⟨n b hb, (K.ok.exf b hb).1, K.ok.exfs b hb, .inl hb, fun x c z => (K.ok.exf b hb).2 x c z, fun q hq => absurd (show q ∈ ([] : List (Addr × Obj)) ++ [] from hq) (by simp)⟩
  refine PpSet.codeAny_compStart_set ?_ (T.self X.A 0 _ _ _ st5 ?_) <;>
  · refine outer_run (fb ρ) (fun n s' => ∃ i H', Inv (X.blk S H3 sc ρ fp) [] (wipe σ (own.map (·.2))) H' s' ∧ tn i s'.heap ∧ (∀ b ∈ fp, H' b = none) ∧ W i n H') ?_ m0 ⟨0, H3, I4', st5, fun b hb => (f3 b hb).1.1, w0⟩
    rintro n s5 ⟨i, H5, I5, st, n5, w5⟩
    rcases turn i n H5 w5 with ⟨stop, qq⟩ | ⟨go, Nx, hNx, step⟩
    · refine thnF (T.done (X.blk S H3 sc ρ fp) rfl rfl rfl hc i [] s5 _ H5 (fun _ _ => False) I5 (stand I5 rfl n5) st stop) fun r s6 ⟨hr, I6⟩ => ?_
      subst hr
      have I7 : Inv X pins σ H5 s6 := I3.call' (ch := fp) I6.os I6.base I6.hok I6.bare fun b hb => by
        obtain ⟨⟨_, a1, a2, a3, a4, a5⟩, _⟩ := f3 b hb
        exact ⟨a3, a1, a4, a5⟩
      have free := I6.free
      obtain ⟨m, loc, _⟩ := I6.loc
      have loc' : s6.heap.Ns ρ.locals m := loc
      have free' : H5 ρ.locals = none := free
      rw [here] at loc' free'
      obtain ⟨e0, e1, e2, e3, e4, e5⟩ := I3.fpOk (Nat.le_refl _) free'
      exact ⟨m, loc', fun h'' sb => ⟨.ref D, H5, I7.turned (t' := s6.toks) (fun b o hb z => (sb.2 b hb).trans z) e0 e1 e3 e4 e5, rfl, qq⟩⟩
    · refine thnF (T.item (X.blk S H3 sc ρ fp) rfl rfl rfl hc i [] s5 _ H5 (fun _ _ => False) I5 (stand I5 rfl n5) st go) fun r s6 ⟨v, hr, h6⟩ => ?_
      subst hr
      refine thnF h6 fun _ s7 ⟨x, H7, I7, r7, y7, st7, n7⟩ => ?_
      have P7 := I7.pinned (stand I7 rfl n7) (T.obj _ _ st7)
      refine thnF (g0.run _ s7 _ H7 x v _ P7 r7 (step x H7 y7)) fun _ s8 ⟨σ8, H8, I8, w8, q8⟩ => ?_
      refine wpAny_pure ?_
      rw [if_pos rfl]
      refine thnF (b0.run _ s8 σ8 H8 _ I8 q8) fun xv s9 hx => thnF hx fun _ s10 h10 => ?_
      obtain ⟨jt, fq, un, J', H10, rfl, I10, T', su10, f10, U, ⟨k0, u0⟩, turn'⟩ := h10
      -- what the outer walk has at its next turn
      have next : ∀ {τ : L2.St} {s' : Shared} {H' : Hp}, Inv (X.blk S H3 sc ρ fp) ([] ++ pinsAt fp s7.heap) τ H' s' → (wipe σ (own.map (·.2))).length = τ.length → (∀ (j : Nat) z, (wipe σ (own.map (·.2)))[j]? = some (some z) → τ[j]? = some (some z)) → Nx H' →
          ∃ m, m < n ∧ ∃ i H', Inv (X.blk S H3 sc ρ fp) [] (wipe σ (own.map (·.2))) H' s' ∧ tn i s'.heap ∧ (∀ b ∈ fp, H' b = none) ∧ W i m H' := fun {τ s' H'} K hl hk nx => by
        obtain ⟨m', lt', w'⟩ := hNx H' nx
        have kept : ∀ b ∈ fp, ∀ o, s7.heap.get? b = some o → s'.heap.get? b = some o ∧ H' b = none := fun b hb o z => by
          obtain ⟨a, c, _⟩ := K.pin (b, o) (List.mem_append_right _ (List.mem_append_right _ (mem_pinsAt hb z)))
          exact ⟨a, c⟩
        refine ⟨m', lt', i + 1, H', (K.unpinned (pins := [])).weak hl hk, T.keep _ _ _ st7 fun b hb o z => (kept b hb o z).1, fun b hb => ?_, w'⟩
        exact (T.obj _ _ st7 b hb).elim fun o z => (kept b hb o z.1).2
      have len8 : (wipe σ (own.map (·.2))).length = (wipe σ8 us).length := by rw [← w8, wipe_length, wipe_length]
      have keep8 : ∀ (j : Nat) z, (wipe σ (own.map (·.2)))[j]? = some (some z) → (wipe σ8 us)[j]? = some (some z) := fun j z hz => by
        rw [← w8] at hz
        obtain ⟨a, c⟩ := wipe_some hz
        rw [wipe_out fun y => c (hu j y)]
        exact a
      have stand' : ∀ {H' : Hp}, (∀ b ∈ fq, H' b = none) → ∀ b ∈ fq, FpOk (X.blk S H3 sc ρ fp) ([] ++ pinsAt fp s7.heap) H' b := fun z b hb => ⟨z b hb, (f10 b hb).2⟩
      refine inner_start ?_ (T'.self X.A 0 _ _ _ su10 ?_) <;>
      · refine inner_run (fun k s' => ∃ j H', Inv (X.blk S H3 sc ρ fp) ([] ++ pinsAt fp s7.heap) (wipe σ8 us) H' s' ∧ un j s'.heap ∧ (∀ b ∈ fq, H' b = none) ∧ U j k H') ?_ k0 ⟨0, H10, I10.weak (wipe_length _ _) (fun j z hz => (wipe_some hz).1), su10, fun b hb => (f10 b hb).1, u0⟩
        rintro k s11 ⟨j, H11, I11, su, n11, u11⟩
        rcases turn' j k H11 u11 with ⟨stop', nx⟩ | ⟨go', Ny, hNy, step'⟩
        · refine thnF (T'.done (X.blk S H3 sc ρ fp) rfl rfl rfl hc j _ s11 (wipe σ8 us) H11 (fun _ _ => False) I11 (stand' n11) su stop') fun r s12 ⟨hr, I12⟩ => ?_
          subst hr
          exact next I12 len8 keep8 nx
        · refine thnF (T'.item (X.blk S H3 sc ρ fp) rfl rfl rfl hc j _ s11 (wipe σ8 us) H11 (fun _ _ => False) I11 (stand' n11) su go') fun r s12 ⟨v', hr, h12⟩ => ?_
          subst hr
          refine thnF h12 fun _ s13 ⟨y, H13, I13, r13, y13, su13, n13⟩ => ?_
          have P13 := I13.pinned (stand' n13) (T'.obj _ _ su13)
          refine thnF (gb0.run _ s13 (wipe σ8 us) H13 y v' _ P13 r13 (step' y H13 y13)) fun _ s14 ⟨σ14, H14, I14, w14, q14⟩ => ?_
          refine wpAny_pure ?_
          rw [if_pos rfl]
          refine thnF (t0.run _ s14 σ14 H14 _ I14 q14) fun z s15 ⟨zv, H15, I15, r15, t, l, ez, hD15, room, ny⟩ => ?_
          subst ez
          obtain ⟨tk, rfl⟩ := r15
          refine addT_ok (X := X.blk S H3 sc ρ fp) I15 hD15 room fun s16 I16 => ?_
          obtain ⟨k', lt', u'⟩ := hNy _ ny
          have kept : ∀ b ∈ fq, ∀ o, s13.heap.get? b = some o → s16.heap.get? b = some o ∧ (upd H15 D (TxO X.prog X.w D (more l t))) b = none := fun b hb o hz => by
            obtain ⟨a, c, _⟩ := I16.pin (b, o) (List.mem_append_right _ (List.mem_append_right _ (mem_pinsAt hb hz)))
            exact ⟨a, c⟩
          refine ⟨k', lt', j + 1, _, I16.unpinned.weak (by rw [← w14, wipe_length]) (fun j z hz => by rw [← w14] at hz; exact (wipe_some hz).1), T'.keep _ _ _ su13 fun b hb o hz => (kept b hb o hz).1, fun b hb => ?_, u'⟩
          exact (T'.obj _ _ su13 b hb).elim fun o hz => (kept b hb o hz.1).2
end
section
variable {P : Program} {w : World} {J J' : It} {n m : Nat} {G G' : Hp → Prop} {Y Y' : Nat → Hp → V → Hp → Prop} {g gj : TG} {wj : TI} {te : TE} {vs us : List Nat} {σ : L2.St} {H1 : Hp} {D : Addr}
/-- the outer walk by what holds ahead of each turn -/
theorem sc2_it {Qd : Hp → Prop} (wk : Walk J n G Y) (Pv : Nat → Hp → Prop) (h0 : Pv 0 (upd H1 D (TxO P w D []))) (hG : ∀ i H, i ≤ n → Pv i H → G H)
    (hs : ∀ i x H H', i < n → Pv i H → Y i H x H' → g x (wipe σ vs) H' fun σ2 H2 => wipe σ2 vs = wipe σ vs ∧ wj σ2 H2 fun J' H3 => ∃ U : Nat → Nat → Hp → Prop, (∃ k, U 0 k H3) ∧ ∀ j k H, U j k H →
      (J'.stop j H ∧ Pv (i + 1) H) ∨ (J'.go j H ∧ ∃ Ny : Hp → Prop, (∀ H', Ny H' → ∃ k', k' < k ∧ U (j + 1) k' H') ∧ ∀ y H', J'.yld j H y H' → gj y (wipe σ2 us) H' fun σ3 H4 => wipe σ3 us = wipe σ2 us ∧
        te σ3 H4 fun z H5 => ∃ (t : Str) (l : List Str), z = .str t ∧ H5 D = some (TxO P w D l) ∧ l.length + 1 < scanBound ∧ Ny (upd H5 D (TxO P w D (more l t)))))
    (hd : ∀ H, Pv n H → Qd H) :
    ∃ W : Nat → Nat → Hp → Prop, (∃ m, W 0 m (upd H1 D (TxO P w D []))) ∧ ∀ i m H, W i m H →
      (J.stop i H ∧ Qd H) ∨ (J.go i H ∧ ∃ Nx : Hp → Prop, (∀ H', Nx H' → ∃ m', m' < m ∧ W (i + 1) m' H') ∧ ∀ x H', J.yld i H x H' → g x (wipe σ vs) H' fun σ2 H2 => wipe σ2 vs = wipe σ vs ∧
        wj σ2 H2 fun J' H3 => ∃ U : Nat → Nat → Hp → Prop, (∃ k, U 0 k H3) ∧ ∀ j k H, U j k H →
          (J'.stop j H ∧ Nx H) ∨ (J'.go j H ∧ ∃ Ny : Hp → Prop, (∀ H', Ny H' → ∃ k', k' < k ∧ U (j + 1) k' H') ∧ ∀ y H', J'.yld j H y H' → gj y (wipe σ2 us) H' fun σ3 H4 => wipe σ3 us = wipe σ2 us ∧
            te σ3 H4 fun z H5 => ∃ (t : Str) (l : List Str), z = .str t ∧ H5 D = some (TxO P w D l) ∧ l.length + 1 < scanBound ∧ Ny (upd H5 D (TxO P w D (more l t))))) := by
  refine ⟨fun i k H => k = n - i ∧ i ≤ n ∧ Pv i H, ⟨n, rfl, Nat.zero_le _, h0⟩, ?_⟩
  rintro i k H ⟨rfl, hi, q⟩
  rcases Nat.lt_or_eq_of_le hi with lt | rfl
  · exact .inr ⟨wk.goes i H lt (hG i H hi q), Pv (i + 1), fun H' q' => ⟨n - (i + 1), by omega, rfl, lt, q'⟩, fun x H' y => hs i x H H' lt q (wk.yields i H x H' lt (hG i H hi q) y)⟩
  · exact .inl ⟨wk.stops H (hG _ H hi q), hd H q⟩
/-- the inner one -/
theorem sc2_in {τ : L2.St} {H3 : Hp} {Qd : Hp → Prop} (wk : Walk J' m G' Y') (Pv : Nat → Hp → Prop) (h0 : Pv 0 H3) (hG : ∀ j H, j ≤ m → Pv j H → G' H)
    (hs : ∀ j y H H', j < m → Pv j H → Y' j H y H' → gj y (wipe τ us) H' fun σ3 H4 => wipe σ3 us = wipe τ us ∧ te σ3 H4 fun z H5 => ∃ (t : Str) (l : List Str), z = .str t ∧ H5 D = some (TxO P w D l) ∧ l.length + 1 < scanBound ∧ Pv (j + 1) (upd H5 D (TxO P w D (more l t))))
    (hd : ∀ H, Pv m H → Qd H) :
    ∃ U : Nat → Nat → Hp → Prop, (∃ k, U 0 k H3) ∧ ∀ j k H, U j k H →
      (J'.stop j H ∧ Qd H) ∨ (J'.go j H ∧ ∃ Ny : Hp → Prop, (∀ H', Ny H' → ∃ k', k' < k ∧ U (j + 1) k' H') ∧ ∀ y H', J'.yld j H y H' → gj y (wipe τ us) H' fun σ3 H4 => wipe σ3 us = wipe τ us ∧
        te σ3 H4 fun z H5 => ∃ (t : Str) (l : List Str), z = .str t ∧ H5 D = some (TxO P w D l) ∧ l.length + 1 < scanBound ∧ Ny (upd H5 D (TxO P w D (more l t)))) := by
  refine ⟨fun j k H => k = m - j ∧ j ≤ m ∧ Pv j H, ⟨m, rfl, Nat.zero_le _, h0⟩, ?_⟩
  rintro j k H ⟨rfl, hj, q⟩
  rcases Nat.lt_or_eq_of_le hj with lt | rfl
  · exact .inr ⟨wk.goes j H lt (hG j H hj q), Pv (j + 1), fun H' q' => ⟨m - (j + 1), by omega, rfl, lt, q'⟩, fun y H' z => hs j y H H' lt q (wk.yields j H y H' lt (hG j H hj q) z)⟩
  · exact .inl ⟨wk.stops H (hG _ H hj q), hd H q⟩
end
end OwSc

namespace OwX
open PySem PySem.Spec PyProof.Rows L2
/-- o.m(e, .., k = v, ..) of an instance of the class at C -/
def tMethN (C : Addr) (m : Str) (n mk : Nat) (sp : Sp) (gV : List V → List V → List V) (E : XK) (ta : TE) (t tk : TA) : TE := fun σ H Q => ta σ H fun x H1 => ∃ a dx fs, x = .ref a ∧ H1 a = some (.ins C dx fs) ∧ fs.lookup m = none ∧
  t σ H1 fun vs H2 => tk σ H2 fun zs H3 => (x :: vs).length = n ∧ zs.length = mk ∧ sp (gV (x :: vs) zs) H3 Q E
section
variable {X : Cx} {CX : CXT} {k n : Nat} {C f : Addr} {fd : FuncData} {ps ks : List Str} {sp : Sp} {E : XK} {m : Str} {apos pos : Pos} {o e : Expr} {es : List Expr} {kws : List Keyword} {ta : TE} {t tk : TA} {g : List Value → List Value → List Value} {gV : List V → List V → List V}
theorem pe_methN {pl : Sem Bool} (he : PE X o ta) (c : Cls X.K C) (hm : Meth X.K C m f) (F : FnOk X.prog X.w X.K X.mg X.base CX k f fd ps sp) (hr : Room k X.A) (hb : KBn X.K fd ps n ks g gV) (hx : Passes CX X E) (ha : PA X (e :: es) t) (hkw : PK X kws tk)
    (hall : (backToKw pos (keywordEach kws X.env)).all (·.1.isSome) = true := by rfl) (hks : (backToKw pos (keywordEach kws X.env)).filterMap (·.1) = ks := by rfl)
    (hst : starEach (e :: es) X.env = (false, eval e X.env) :: starEach es X.env := by rfl)
    (hpl : ((backTo pos (starEach (e :: es) X.env)).any (·.1) || (backToKw pos (keywordEach kws X.env)).any (·.1.isNone)) = false := by rfl)
    (ht : eval (.Call (.Attribute o m apos) (e :: es) kws pos) X.env = (do
      let ov ← eval o X.env
      standAt apos.atName
      let (f, first) ← holding [ov] (getMethod ov m pl)
      callWith pos f first (backTo pos (starEach (e :: es) X.env)) (backToKw pos (keywordEach kws X.env))) := by rfl) :
    PE X (.Call (.Attribute o m apos) (e :: es) kws pos) (tMethN C m n ks.length sp gV E ta t tk) := by
  refine ⟨fun pins s σ H Q I h => ?_⟩
  refine PySem.W.methodCall_KW (pl := pl) (thn (he.run pins s σ H _ I h) fun u s1 ⟨x, H1, I1, rx, a, dx, fs, ex, ea, l, q⟩ => ?_) ht
  subst ex
  obtain rfl : u = Value.ref a := rx
  refine getmeth_ok I1 ea c hm l ?_
  refine PySem.W.callWith_KW (first := [.ref a]) (h₀ := X.base) I.ok.mod.kin hm.kp hall (thn (ha.run pos pins s1 σ H1 _ I1 q) fun us s2 ⟨vs, H2, I2, r, q2⟩ => ?_) hpl hst
  refine thn (hkw.run pos pins s2 σ H2 _ I2 q2) fun ws s3 ⟨zs, H3, I3, rz, l1, l2, q3⟩ => ⟨I3.kIn, ?_⟩
  rw [hks]
  exact run_fnN (us := .ref a :: us) (vs := .ref a :: vs) F hr hb hx I3 (.cons rfl r) rz l1 l2 q3
end
/-- o[i] of a dict, by values -/
def gtD : V → V → Hp → VK → Prop := fun o i H Q => ∃ a v, o = .ref a ∧ DGet H a i (some v) ∧ Q v H
theorem pget_dict {X : Cx} (hu : X.A.units + 1 < cLine) : PGet X gtD := by
  intro pins s σ H o i ov iv Q I ro ri h
  obtain ⟨a, v, eo, g, q⟩ := h
  subst eo
  obtain rfl : ov = Value.ref a := ro
  exact d_getItem hu I g ri fun w' s3 I3 rw' => ⟨v, H, I3, rw', q⟩
theorem vals_app {vs : List V} {us : List Value} {zs : List V} {ws : List Value} (r : Vals vs us) (q : Vals zs ws) : Vals (vs ++ zs) (us ++ ws) := r.append q
/-- a def with one keyword-only default d, named m -/
theorem funD_fun {K : PySem.W.Frag} {x qual : Str} {st : Stmt} {f : Addr} {fd : FuncData} {kws : List (Str × V)} (F : FunD K x qual (defArgs st) (defBody st) (defScope st) [] kws f fd) : Fun K x qual st f fd := by
  obtain ⟨oc, od, dV, kV, doc, pm, an, cdv, ct, osl, e, lk, hcd, hD, hK⟩ := F.ex
  rcases hD with ⟨_, rfl⟩ | ⟨e, _⟩
  · exact ⟨⟨oc, od, kV, doc, pm, an, cdv, ct, osl, e, lk, hcd⟩, F.kp⟩
  · exact absurd rfl e
end OwX

namespace OwNe
open PySem PySem.W PySem.Spec PyProof.Rows Builtin
open Sem (wp)
section
variable {prog : Program} {w : World} {A : Around} {E : Value → Shared → Prop} {s : Shared} {h₀ : Heap} {L C x f : Addr} {m : Str → Option Value} {K : Frag} {ox : Obj} {od : Option Obj} {tb b : Value}
theorem ifBoundB_K {M : Model} {args : List Value} {Q : Option Value → Shared → Prop} {name : Str} {id : String} (X : K.In s.heap) (I : InstAt s.heap x ox C od) (hs : findIn K (.ref C) name = some (some (.builtin id))) (hb : bindSpecial (.builtin id) (.ref x) = pure (.builtin id, [.ref x]))
    (h : wpAny M A (call (.builtin id) (.ref x :: args)) (fun v => Q (some v)) E s) : wpAny M A (callSpecialIfBound? (.ref x) name args) Q E s := by
  simp only [callSpecialIfBound?, bindSpecialIfBound?]
  refine wpAny_holding (wpAny_bind (wpAny_bind (wpAny_bind (I.type.here ((looks_findIn X hs).here ?_)))))
  simp only [hb]
  refine wpAny_bind (wpAny_askSetting (wpAny_ite ?_))
  have fin : wpAny M A (call (.builtin id) ([.ref x] ++ args) >>= fun v => pure (some v)) Q E s := wpAny_bind (wpAny_mono h (fun v s' h' => wpAny_pure h') fun _ _ h' => h')
  split
  · exact wpAny_bind (wpAny_pure (wpAny_pure fin))
  · exact wpAny_tryCatch (wpAny_bind (wpAny_pure (wpAny_pure fin)))
theorem objNe_K (X : K.In s.heap) (I : InstAt s.heap x ox C od) (hs : findIn K (.ref C) "__eq__" = some (some (.ref f))) (hf : isFn K (.ref f) = true) (hu : A.units < cLine) {Q : Fin → Shared → Prop}
    (hcall : wpAny (model prog w) A (call (.ref f) [.ref x, b]) (fun v s' => ∃ b, v = .bool b ∧ Q (.done (.ret (.bool (!b)))) s') E s) :
    wpAny (model prog w) A (Builtin.«object.__ne__» ⟨[.ref x, b], []⟩) Q E s := by
  unfold Builtin.«object.__ne__»
  repeat (first
    | with_reducible refine wpAny_cRoomFor hu ?_
    | (refine wpAny_bind (m := callSpecialIfBound? (.ref x) (Str.ofString "__eq__") [b])
        (ifBound_K X I hs hf (wpAny_mono hcall (fun r s' hr => by
          obtain ⟨b, rfl, hq⟩ := hr
          repeat (first | exact hq | exact wpAny_pure hq | exact wpAny_truthy_bool hq | (refine wpAny_bind (m := truthy (.bool _)) (wpAny_truthy_bool ?_)) | wp_step)) fun _ _ e => e)))
    | wp_step)
theorem ne_K {Q : Value → Shared → Prop} (hu : A.units + 1 < cLine) (Fm : Fr h₀ L s.heap m) (X₀ : K.In h₀) (I : InstAt s.heap x ox C od) (hb : Looks (model prog w) s.heap (typeOf b) (.ref C)) (hn : findIn K (.ref C) "__ne__" = some (some (.builtin "object.__ne__")))
    (hos : subIn K (.ref C) (.type "object") = some true) (hs : findIn K (.ref C) "__eq__" = some (some (.ref f))) (hf : isFn K (.ref f) = true)
    (h : wpAny (model prog w) A.in1 (call (.ref f) [.ref x, b]) (NeBack Q) E s) : wpAny (model prog w) A (richCompare .NotEq (.ref x) b) Q E s := by
  have X := X₀.keeps Fm.keep
  have FB : CmpFacts "object" [.type "object"] := PySem.F.cmp_object
  have one : wpAny (model prog w) A (tryCompare (.ref x) "__ne__" b) (fun r s' => ∃ v, r = some v ∧ Q v s') E s := by
    simp only [tryCompare]
    refine wpAny_bind (ifBoundB_K X I hn (FB.ne.bind _) (wpAny_call (codeAny_call_builtin FB.ne.plain F.cmpEntry_ne ?_)))
    refine check_slot F.cmpKind_ne F.cmpSplit_ne (I.type.andThen (looks_subIn X hos)) (F.cmpArgs_ne _ _) ?_
    refine objNe_K (A := A.in1) X I hs hf hu (wpAny_mono h (fun v s' hv => ?_) fun _ _ e => e)
    obtain ⟨b, rfl, hq⟩ := hv
    exact ⟨b, rfl, wpAny_pure ⟨_, rfl, hq⟩⟩
  unfold richCompare
  simp only [oneThing_ref]
  refine wpAny_holding (wpAny_bind (wpAny_cRoomFor (Nat.lt_of_succ_lt hu) ?_))
  rw [cmpInfo_NotEq]
  dsimp only
  refine wpAny_bind (I.type.here (wpAny_bind (hb.here ?_)))
  rw [show (Value.ref C != Value.ref C) = false from by simp]
  simp only [Bool.false_eq_true, if_false]
  refine wpAny_bind (wpAny_pure ?_)
  simp only [Bool.false_eq_true, if_false]
  refine wpAny_bind (wpAny_mono one (fun r s' z => ?_) fun _ _ e => e)
  obtain ⟨v, rfl, hq⟩ := z
  exact wpAny_pure hq
end
end OwNe
namespace OwX
open PySem PySem.Spec PyProof.Rows L2
/-- == and != of two instances of one class by its own __eq__ -/
def rOwn (C : Addr) (sp : Sp) (neg : Bool) : R2 := fun x y H Q => ∃ a b dx dy fs gs, x = .ref a ∧ y = .ref b ∧ H a = some (.ins C dx fs) ∧ H b = some (.ins C dy gs) ∧
  sp [.ref a, .ref b] H (fun v H' => ∃ r : Bool, v = .bl r ∧ Q (.bl (if neg = true then !r else r)) H') E0
structure OwnCmp (K : PySem.W.Frag) (C f : Addr) : Prop where
  eq : PySem.W.findIn K (.ref C) "__eq__" = some (some (.ref f))
  ne : PySem.W.findIn K (.ref C) "__ne__" = some (some (.builtin "object.__ne__"))
  ob : PySem.W.subIn K (.ref C) (.type "object") = some true
  fn : PySem.W.isFn K (.ref f) = true
section
variable {X : Cx} {k : Nat} {C f : Addr} {fd : FuncData} {ps : List Str} {sp : Sp}
theorem op_eqOwn (F : FnOk X.prog X.w X.K X.mg X.base CX0 k f fd ps sp) (O : OwnCmp X.K C f) (hb : Binds X.K fd ps []) (hr : Room k X.A) : OpR X (compareOp .Eq) (rOwn C sp false) := by
  intro pins s σ H x y v u Q I rx ry h
  obtain ⟨a, b, dx, dy, fs, gs, rfl, rfl, ha, hb', hsp⟩ := h
  cases rx
  cases ry
  obtain ⟨mA, J, _⟩ := ins_get I.hok ha
  obtain ⟨mB, J', _⟩ := ins_get I.hok hb'
  obtain ⟨od, J, _⟩ := J.look
  obtain ⟨od', J', _⟩ := J'.look
  obtain ⟨m, hF⟩ := I.fr
  show wpAny (model X.prog X.w) X.A (richCompare .Eq (.ref a) (.ref b)) (EP X pins σ Q) X.xe s
  refine PySem.W.cmp_K (op := .Eq) (tb := .ref C) hr.units0 hF I.ok.mod.kin J J'.type (by simp [PySem.W.notFirst]) O.eq O.fn ?_
  have hl := F.len _ _ _ _ hsp
  have r2 : Vals [V.ref a, V.ref b] [Value.ref a, Value.ref b] := .cons rfl (.cons rfl .nil)
  refine wpAny_call (codeAny_mono (F.run X.A X.stack s H ⟨[.ref a, .ref b], []⟩ [.ref a, .ref b] [.ref a, .ref b] _ E0 hr I.env0 (by
    have := hb s [.ref a, .ref b] I.kIn (by simpa using hl)
    simpa using this) r2 hsp) fun r s' hq => ?_)
  cases r with
  | error e => exact False.elim hq
  | ok fl =>
    cases fl with
    | ret w =>
      obtain ⟨z, H', I', rz, r, ez, q⟩ := I.after hq
      subst ez
      cases rz
      exact ⟨.bl r, H', I', rfl, q⟩
    | next => exact False.elim hq
    | brk => exact False.elim hq
    | cont => exact False.elim hq
theorem op_neOwn (F : FnOk X.prog X.w X.K X.mg X.base CX0 k f fd ps sp) (O : OwnCmp X.K C f) (hb : Binds X.K fd ps []) (hr : Room (k + 1) X.A) : OpR X (compareOp .NotEq) (rOwn C sp true) := by
  intro pins s σ H x y v u Q I rx ry h
  obtain ⟨a, b, dx, dy, fs, gs, rfl, rfl, ha, hb', hsp⟩ := h
  cases rx
  cases ry
  obtain ⟨mA, J, _⟩ := ins_get I.hok ha
  obtain ⟨mB, J', _⟩ := ins_get I.hok hb'
  obtain ⟨od, J, _⟩ := J.look
  obtain ⟨od', J', _⟩ := J'.look
  obtain ⟨m, hF⟩ := I.fr
  show wpAny (model X.prog X.w) X.A (richCompare .NotEq (.ref a) (.ref b)) (EP X pins σ Q) X.xe s
  refine OwNe.ne_K (by have := hr.un; omega) hF I.ok.mod.kin J J'.type O.ne O.ob O.eq O.fn ?_
  have hl := F.len _ _ _ _ hsp
  have r2 : Vals [V.ref a, V.ref b] [Value.ref a, Value.ref b] := .cons rfl (.cons rfl .nil)
  refine wpAny_call (codeAny_mono (F.run X.A.in1 X.stack s H ⟨[.ref a, .ref b], []⟩ [.ref a, .ref b] [.ref a, .ref b] _ E0 hr.in1 I.env0.in1 (by
    have := hb s [.ref a, .ref b] I.kIn (by simpa using hl)
    simpa using this) r2 hsp) fun r s' hq => ?_)
  cases r with
  | error e => exact False.elim hq
  | ok fl =>
    cases fl with
    | ret w =>
      obtain ⟨z, H', I', rz, r, ez, q⟩ := I.after hq
      subst ez
      cases rz
      exact ⟨r, rfl, .bl (!r), H', I', rfl, q⟩
    | next => exact False.elim hq
    | brk => exact False.elim hq
    | cont => exact False.elim hq
end
end OwX

/-! +, -, unary -, len and in by an instance's own methods. -/
namespace OwX
open PySem PySem.Spec PyProof.Rows L2
/-- a class's own method behind an operation -/
structure OwnOp (K : PySem.W.Frag) (C : Addr) (m : Str) (f : Addr) : Prop where
  at_ : PySem.W.findIn K (.ref C) m = some (some (.ref f))
  fn : PySem.W.isFn K (.ref f) = true
/-- both of one class; a new object is answered -/
def rOwnB (C : Addr) (sp : Sp) : R2 := fun x y H Q => ∃ a b dx dy fs gs, x = .ref a ∧ y = .ref b ∧ H a = some (.ins C dx fs) ∧ H b = some (.ins C dy gs) ∧
  sp [.ref a, .ref b] H (fun v H' => ∃ r : Addr, v = .ref r ∧ Q (.ref r) H') E0
def rOwnU (C : Addr) (sp : Sp) : V → Hp → VK → Prop := fun x H Q => ∃ a dx fs, x = .ref a ∧ H a = some (.ins C dx fs) ∧ sp [.ref a] H Q E0
def rOwnLen (C : Addr) (sp : Sp) : List V → Hp → VK → Prop := fun xs H Q => ∃ a dx fs, xs = [.ref a] ∧ H a = some (.ins C dx fs) ∧ sp [.ref a] H (fun v H' => ∃ n : Int, v = .int n ∧ 0 ≤ n ∧ n < 2 ^ 63 ∧ Q (.int n) H') E0
def rOwnIn (C : Addr) (sp : Sp) (neg : Bool) : R2 := fun x y H Q => ∃ a dx fs, y = .ref a ∧ H a = some (.ins C dx fs) ∧ sp [.ref a, x] H (fun v H' => ∃ r : Bool, v = .bl r ∧ Q (.bl (if neg = true then !r else r)) H') E0
section
variable {X : Cx} {k : Nat} {C f : Addr} {fd : FuncData} {ps : List Str} {sp : Sp}
theorem op_addOwn (F : FnOk X.prog X.w X.K X.mg X.base CX0 k f fd ps sp) (op : Operator) (O : OwnOp X.K C (PySem.dunder op.info.2) f) (hc : PySem.W.selfFirst X.K C = true) (hb : Binds X.K fd ps []) (hr : Room k X.A) : OpR X (binaryOp op) (rOwnB C sp) := by
  intro pins s σ H x y v u Q I rx ry h
  obtain ⟨a, b, dx, dy, fs, gs, rfl, rfl, ha, hb', hsp⟩ := h
  cases rx
  cases ry
  obtain ⟨mA, J, _⟩ := ins_get I.hok ha
  obtain ⟨mB, J', _⟩ := ins_get I.hok hb'
  obtain ⟨od, J, _⟩ := J.look
  obtain ⟨od', J', _⟩ := J'.look
  obtain ⟨m, hF⟩ := I.fr
  refine PySem.W.binop_K hF I.ok.mod.kin J J'.type hc O.at_ O.fn ?_
  have hl := F.len _ _ _ _ hsp
  have r2 : Vals [V.ref a, V.ref b] [Value.ref a, Value.ref b] := .cons rfl (.cons rfl .nil)
  refine wpAny_call (codeAny_mono (F.run X.A X.stack s H ⟨[.ref a, .ref b], []⟩ [.ref a, .ref b] [.ref a, .ref b] _ E0 hr I.env0 (by
    have := hb s [.ref a, .ref b] I.kIn (by simpa using hl)
    simpa using this) r2 hsp) fun r s' hq => ?_)
  cases r with
  | error e => exact False.elim hq
  | ok fl =>
    cases fl with
    | ret w =>
      obtain ⟨z, H', I', rz, r, ez, q⟩ := I.after hq
      subst ez
      cases rz
      exact ⟨.ref r, H', I', rfl, q⟩
    | next => exact False.elim hq
    | brk => exact False.elim hq
    | cont => exact False.elim hq
theorem un_negOwn (F : FnOk X.prog X.w X.K X.mg X.base CX0 k f fd ps sp) (O : OwnOp X.K C "__neg__" f) (hb : Binds X.K fd ps []) (hr : Room k X.A) : UnR X (unaryOp .USub) (rOwnU C sp) := by
  intro pins s σ H x v Q I rx h
  obtain ⟨a, dx, fs, rfl, ha, hsp⟩ := h
  cases rx
  obtain ⟨mA, J, _⟩ := ins_get I.hok ha
  obtain ⟨od, J, _⟩ := J.look
  obtain ⟨m, hF⟩ := I.fr
  have hl := F.len _ _ _ _ hsp
  have r2 : Vals [V.ref a] [Value.ref a] := .cons rfl .nil
  unfold unaryOp
  refine wpAny_holding ?_
  refine wpAny_bind (m := callSpecial? (.ref a) "__neg__") (PySem.W.special_fn (I.ok.mod.kin.keeps hF.keep) J O.at_ (beq_iff_eq.mp O.fn) ?_)
  refine wpAny_call (codeAny_mono (F.run X.A X.stack s H ⟨[.ref a], []⟩ [.ref a] [.ref a] _ E0 hr I.env0 (by
    have := hb s [.ref a] I.kIn (by simpa using hl)
    simpa using this) r2 hsp) fun r s' hq => ?_)
  cases r with
  | error e => exact False.elim hq
  | ok fl =>
    cases fl with
    | ret w =>
      have q := I.after hq
      exact wpAny_pure q
    | next => exact False.elim hq
    | brk => exact False.elim hq
    | cont => exact False.elim hq
theorem call_lenOwn (F : FnOk X.prog X.w X.K X.mg X.base CX0 k f fd ps sp) (O : OwnOp X.K C "__len__" f) (hb : Binds X.K fd ps []) (hr : Room (k + 1) X.A) : CallR X (.builtin "len") (rOwnLen C sp) := by
  intro pins s σ H xs us Q I r h
  obtain ⟨a, dx, fs, rfl, ha, hsp⟩ := h
  rw [Vals.ref1 r]
  obtain ⟨mA, J, _⟩ := ins_get I.hok ha
  obtain ⟨od, J, _⟩ := J.look
  obtain ⟨m, hF⟩ := I.fr
  have hl := F.len _ _ _ _ hsp
  have r2 : Vals [V.ref a] [Value.ref a] := .cons rfl .nil
  refine PySem.W.len_K hF I.ok.mod.kin J O.at_ O.fn ?_
  refine wpAny_call (codeAny_mono (F.run X.A.in1 X.stack s H ⟨[.ref a], []⟩ [.ref a] [.ref a] _ E0 hr.in1 I.env0.in1 (by
    have := hb s [.ref a] I.kIn (by simpa using hl)
    simpa using this) r2 hsp) fun r s' hq => ?_)
  cases r with
  | error e => exact False.elim hq
  | ok fl =>
    cases fl with
    | ret w =>
      obtain ⟨z, H', I', rz, n, ez, h0, h1, q⟩ := I.after hq
      subst ez
      obtain ⟨t, rfl⟩ := rz
      exact ⟨⟨h0, h1⟩, .int n, H', I'.tok _, ⟨_, rfl⟩, q⟩
    | next => exact False.elim hq
    | brk => exact False.elim hq
    | cont => exact False.elim hq
theorem op_inOwn (F : FnOk X.prog X.w X.K X.mg X.base CX0 k f fd ps sp) (O : OwnOp X.K C "__contains__" f) (hb : Binds X.K fd ps []) (hr : Room k X.A) : OpR X (compareOp .In) (rOwnIn C sp false) := by
  intro pins s σ H x y v u Q I rx ry h
  obtain ⟨a, dx, fs, rfl, ha, hsp⟩ := h
  cases ry
  obtain ⟨mA, J, _⟩ := ins_get I.hok ha
  obtain ⟨od, J, _⟩ := J.look
  obtain ⟨m, hF⟩ := I.fr
  have hl := F.len _ _ _ _ hsp
  have r2 : Vals [V.ref a, x] [Value.ref a, v] := .cons rfl (.cons rx .nil)
  refine PySem.W.in_K hF I.ok.mod.kin J O.at_ O.fn ?_
  refine wpAny_call (codeAny_mono (F.run X.A X.stack s H ⟨[.ref a, v], []⟩ [.ref a, v] [.ref a, x] _ E0 hr I.env0 (by
    have := hb s [.ref a, v] I.kIn (by simpa using hl)
    simpa using this) r2 hsp) fun r s' hq => ?_)
  cases r with
  | error e => exact False.elim hq
  | ok fl =>
    cases fl with
    | ret w =>
      obtain ⟨z, H', I', rz, r, ez, q⟩ := I.after hq
      subst ez
      cases rz
      exact wpAny_truthy_bool ⟨.bl r, H', I', rfl, q⟩
    | next => exact False.elim hq
    | brk => exact False.elim hq
    | cont => exact False.elim hq
theorem op_ninOwn (F : FnOk X.prog X.w X.K X.mg X.base CX0 k f fd ps sp) (O : OwnOp X.K C "__contains__" f) (hb : Binds X.K fd ps []) (hr : Room k X.A) : OpR X (compareOp .NotIn) (rOwnIn C sp true) := by
  intro pins s σ H x y v u Q I rx ry h
  obtain ⟨a, dx, fs, rfl, ha, hsp⟩ := h
  cases ry
  obtain ⟨mA, J, _⟩ := ins_get I.hok ha
  obtain ⟨od, J, _⟩ := J.look
  obtain ⟨m, hF⟩ := I.fr
  have hl := F.len _ _ _ _ hsp
  have r2 : Vals [V.ref a, x] [Value.ref a, v] := .cons rfl (.cons rx .nil)
  refine PySem.W.notIn_K hF I.ok.mod.kin J O.at_ O.fn ?_
  refine wpAny_call (codeAny_mono (F.run X.A X.stack s H ⟨[.ref a, v], []⟩ [.ref a, v] [.ref a, x] _ E0 hr I.env0 (by
    have := hb s [.ref a, v] I.kIn (by simpa using hl)
    simpa using this) r2 hsp) fun r s' hq => ?_)
  cases r with
  | error e => exact False.elim hq
  | ok fl =>
    cases fl with
    | ret w =>
      obtain ⟨z, H', I', rz, r, ez, q⟩ := I.after hq
      subst ez
      cases rz
      exact wpAny_truthy_bool ⟨.bl (!r), H', I', rfl, q⟩
    | next => exact False.elim hq
    | brk => exact False.elim hq
    | cont => exact False.elim hq
end
end OwX

/-! What a call wants of a def, a method, a property. -/
namespace OwW
open PySem PyProof.Rows L2 OwX
/-- a def of the module that can be called -/
structure Cl (P : Program) (w : World) (K : PySem.W.Frag) (mg : Str → Option Value) (base : Heap) (k : Nat) (nm : Str) (ps : List Str) (sp : Sp) where
  f : Addr
  fd : FuncData
  ok : FnOk P w K mg base CX0 k f fd ps sp
  gl : mg nm = some (.ref f)
  kp : PySem.W.keepIn K (.ref f) = true
  bd : Binds K fd ps []
/-- .. where no guard stands -/
structure ClG (P : Program) (w : World) (K : PySem.W.Frag) (mg : Str → Option Value) (base : Heap) (k : Nat) (nm : Str) (ps : List Str) (sp : Sp) where
  f : Addr
  fd : FuncData
  ok : GFn P w K mg base (L2.CX P w) k f fd ps sp
  gl : mg nm = some (.ref f)
  kp : PySem.W.keepIn K (.ref f) = true
  bd : Binds K fd ps []
/-- .. told by positional values -/
structure ClR (P : Program) (w : World) (K : PySem.W.Frag) (mg : Str → Option Value) (base : Heap) (k : Nat) (nm : Str) (sp : Sp) where
  f : Addr
  ok : FnR P w K mg base CX0 k f sp
  gl : mg nm = some (.ref f)
  kp : PySem.W.keepIn K (.ref f) = true
/-- a method of the class at C -/
structure Mt (P : Program) (w : World) (K : PySem.W.Frag) (mg : Str → Option Value) (base : Heap) (k : Nat) (C : Addr) (m : Str) (ps : List Str) (sp : Sp) where
  f : Addr
  fd : FuncData
  me : Meth K C m f
  ok : FnOk P w K mg base CX0 k f fd ps sp
  bd : Binds K fd ps []
/-- .. with the keyword many, which is 1 where it is not told; n: the parameters ahead -/
structure MtK (P : Program) (w : World) (K : PySem.W.Frag) (mg : Str → Option Value) (base : Heap) (k : Nat) (C : Addr) (m : Str) (ps : List Str) (n : Nat) (sp : Sp) where
  f : Addr
  fd : FuncData
  me : Meth K C m f
  ok : FnOk P w K mg base CX0 k f fd ps sp
  ds : List Value
  vd : Vals [.int 1] ds
  bd : Binds K fd ps ds
  kb : KBn K fd ps n ["many"] (fun us ws => us ++ ws) (fun vs zs => vs ++ zs)
/-- a property of the class at C -/
structure Pt (P : Program) (w : World) (K : PySem.W.Frag) (mg : Str → Option Value) (base : Heap) (k : Nat) (C : Addr) (m : Str) (sp : Sp) where
  f : Addr
  fd : FuncData
  pa : Addr
  po : PropOf K C m pa f
  ok : FnOk P w K mg base CX0 k f fd ["self"] sp
  bd : Binds K fd ["self"] []
/-- a special method of the class at C, met by an operator -/
structure Ow (P : Program) (w : World) (K : PySem.W.Frag) (mg : Str → Option Value) (base : Heap) (k : Nat) (C : Addr) (m : Str) (ps : List Str) (sp : Sp) where
  f : Addr
  fd : FuncData
  op : OwnOp K C m f
  ok : FnOk P w K mg base CX0 k f fd ps sp
  bd : Binds K fd ps []
/-- a classmethod of the class at C -/
structure Cm (P : Program) (w : World) (K : PySem.W.Frag) (mg : Str → Option Value) (base : Heap) (CX : CXT) (k : Nat) (C : Addr) (m : Str) (sp : Sp) where
  f : Addr
  p : Addr
  mc : Value
  rd : ClX.CRead K C mc
  me : ClX.CMet K C mc m p f
  ok : FnR P w K mg base CX k f sp
end OwW


namespace OwW
open PySem PyProof.Rows L2 L2H OwX Rd Evl OwT OwSc
abbrev NEo : List Str := ["ties", "tie", "place"]
theorem found_mem {ts : List (Str × Str)} {k : Str} : k ∈ foundL ts ↔ ∃ t ∈ ts, k = t.1 ∨ k = t.2 := by
  unfold foundL
  simp [List.mem_flatMap]
theorem once_app (xs : List Str) (a : Str) : once (xs ++ [a]) = more (once xs) a := by
  unfold once
  rw [List.foldl_append]
  rfl
theorem found_take {ts : List (Str × Str)} {i : Nat} {t : Str × Str} (h : ts[i]? = some t) : foundL (ts.take (i + 1)) = (foundL (ts.take i) ++ [t.1]) ++ [t.2] := by
  unfold foundL
  rw [List.take_add_one, List.flatMap_append, h]
  simp
theorem ex_none {H H' : Hp} {a : Addr} (e : Ex H H') (h : H' a = none) : H a = none := by
  cases z : H a with
  | none => rfl
  | some o => rw [e _ _ z] at h; exact nomatch h
/-- the places of a list of ties -/
def spEndsOf : Sp := fun vs H Q _ => ∃ (p : Addr) (ys : TL), vs = [.ref p] ∧ H p = some (.lst (rf ys)) ∧ TA H ys ∧ ys.length ≤ 20 ∧
  ∀ (ks : List Str) q H', ks.Pairwise (fun a b => OwL2.lt a b = true) → (∀ k, k ∈ ks ↔ ∃ t ∈ ys.map (·.2), k = t.1 ∨ k = t.2) → Ex H H' → H' q = some (.tup (ks.map V.str)) → H q = none → Q (.ref q) H'
section
variable {P : Program} {w : World} {K : PySem.W.Frag} {mg : Str → Option Value} {base : Heap}
end
end OwW


namespace OwW
open PySem PyProof.Rows L2 L2H OwX Rd Evl
abbrev sWSpare : Stmt := mth 15 6
abbrev sWBut : Stmt := mth 15 24
abbrev sWJW : Stmt := mth 15 25
abbrev sWBri : Stmt := mth 15 7
abbrev sWTAt : Stmt := mth 15 9
abbrev sWTied : Stmt := mth 15 10
abbrev sWLen : Stmt := mth 15 19
abbrev NBut : List Str := ["self", "tie", "other"]
abbrev NTAt : List Str := ["self", "place", "tie"]
/-- all places are joined to the first one -/
def Joined (ks : List Str) (ts : List (Str × Str)) : Prop := ∀ k ∈ ks, Rch ts (ks.getD 0 "") k
noncomputable def joinB (ks : List Str) (ts : List (Str × Str)) : Bool := @decide (Joined ks ts) (Classical.propDecidable _)
theorem joinB_true {ks : List Str} {ts : List (Str × Str)} : joinB ks ts = true ↔ Joined ks ts := by
  unfold joinB
  exact @decide_eq_true_iff _ (Classical.propDecidable _)
def butL (t : Str × Str) (ts : List (Str × Str)) : List (Str × Str) := ts.filter fun u => !decide (u = t)
theorem shaped_pair {t : Str × Str} (h : nameB t.1 = true ∧ nameB t.2 = true) : SeqAt.shaped (pairD t) = true :=
  shaped_tup (ss := [t.1, t.2]) fun s hs => by
    rcases List.mem_cons.mp hs with rfl | hs
    · exact h.1
    · rw [List.mem_singleton.mp hs]; exact h.2
theorem eqv_pair (t u : Str × Str) : PyData.eqv (pairD t) (pairD u) = decide (t = u) := by
  have z : PyData.eqv (pairD t) (pairD u) = PyData.eqvAll ([t.1, t.2].map PyData.str) ([u.1, u.2].map PyData.str) := by simp [pairD, PyData.eqv]
  rw [z, eqvAll_strs]
  obtain ⟨a, b⟩ := t
  obtain ⟨c, d⟩ := u
  by_cases e : a = c <;> by_cases g : b = d <;> simp [e, g]
theorem web_names {ks : List Str} {ys : TL} (ok : WebOk ks (ys.map (·.2))) {t : Str × Str} (h : t ∈ ys.map (·.2)) : nameB t.1 = true ∧ nameB t.2 = true := ⟨ok.names _ (ok.ends t h).1, ok.names _ (ok.ends t h).2.1⟩
theorem dp_pair {K : PySem.W.Frag} {H : Hp} {a : Addr} {t : Str × Str} (h : H a = some (.tup [.str t.1, .str t.2])) : Dp K H (.ref a) (pairD t) := .tup (SqT.of h) (.cons (.str _) (.cons (.str _) .nil))
theorem inV_strs (x : Str) : ∀ l : List Str, inV (.str x) (l.map V.str) = decide (x ∈ l)
  | [] => rfl
  | a :: l => by
    show ((a == x) || inV (.str x) (l.map V.str)) = _
    rw [inV_strs x l]
    by_cases c : a = x
    · simp [c]
    · have c' : ¬ x = a := fun z => c z.symm
      simp [c, c']
def d0 : Addr × Str × Str := (0, ("" : Str), ("" : Str))
theorem keep_rf (ys : TL) (g : Str × Str → Bool) : ((List.range (rf ys).length).filter fun i => g (ys.getD i d0).2).map (fun i => V.ref (ys.getD i d0).1) = rf (ys.filter fun u => g u.2) := by
  have z := congrArg (List.map fun u : Addr × Str × Str => V.ref u.1) (range_filter ys d0 fun u => g u.2)
  rw [List.map_map] at z
  rw [List.length_map]
  exact z
/-- [tie for .. in ties if ..]: of a row of ties those that g keeps -/
theorem lc_ties {J : It} {G : Hp → Prop} {ys : TL} (wk : Walk J (rf ys).length G (YAt (rf ys))) (g : Str × Str → Bool) {gt : TG} {tt : TT} {te : TE} {js : List Nat} {σ : L2.St} {H1 : Hp} {D : Addr} {Qd : Hp → Prop} (hD : H1 D = none) (hl : ys.length ≤ 1000) (hG : ∀ H', Ex H1 H' → G H')
    (hs : ∀ u ∈ ys, ∀ (H : Hp) (B : L2.St → Bool → Hp → Prop), Ex H1 H → (∀ σ2 H4, Ex H H4 → (g u.2 = true → ∀ R : V → Hp → Prop, (∀ H5, Ex H H5 → R (.ref u.1) H5) → te σ2 H4 R) → B σ2 (g u.2) H4) → gt (.ref u.1) (wipe σ js) H fun σ2 H2 => wipe σ2 js = wipe σ js ∧ tt σ2 H2 (B σ2))
    (hd : ∀ H, Ex H1 H → H D = some (.lst (rf (ys.filter fun u => g u.2))) → Qd H) :
    ∃ W : Nat → Nat → Hp → Prop, (∃ m, W 0 m (upd H1 D (.lst []))) ∧ ∀ i m H, W i m H →
      (J.stop i H ∧ Qd H) ∨ (J.go i H ∧ ∃ Nx : Hp → Prop, (∀ H', Nx H' → ∃ m', m' < m ∧ W (i + 1) m' H') ∧ ∀ x H', J.yld i H x H' → gt x (wipe σ js) H' fun σ2 H2 => wipe σ2 js = wipe σ js ∧ tt σ2 H2 fun b H3 =>
        if b = true then te σ2 H3 fun y H4 => ∃ acc, H4 D = some (.lst acc) ∧ acc.length < sizeLine ∧ Nx (upd H4 D (.lst (acc ++ [y]))) else Nx H3) := by
  refine Rd.lc_keepG wk (fun i => g (ys.getD i d0).2) (fun i => V.ref (ys.getD i d0).1) hD (by rw [List.length_map]; omega) hG (fun i x H H' B hi ea y hB => ?_) (fun H e h => hd H e (by rw [h, keep_rf]))
  obtain ⟨rfl, hx⟩ := y
  rw [List.getElem?_map] at hx
  cases hu : ys[i]? with
  | none => rw [hu] at hx; exact nomatch hx
  | some u =>
    rw [hu] at hx
    cases hx
    have eu : ys.getD i d0 = u := by rw [List.getD_eq_getElem?_getD, hu]; rfl
    rw [eu] at hB
    exact hs u (List.mem_of_getElem? hu) _ B ea hB
def spWSpare (C : Addr) : Sp := fun vs H Q _ => ∃ (a : Addr) (ks : List Str) (ys : TL), vs = [.ref a] ∧ IsWeb C H a ks ys ∧ Q (.int ((ys.length : Int) - ks.length + 1)) H
def spWLen (C : Addr) : Sp := fun vs H Q _ => ∃ (a : Addr) (ks : List Str) (ys : TL), vs = [.ref a] ∧ IsWeb C H a ks ys ∧ Q (.int ks.length) H
/-- the web's ties but one -/
def spWBut (C : Addr) : Sp := fun vs H Q _ => ∃ (a b : Addr) (ks : List Str) (ys : TL) (t : Str × Str), vs = [.ref a, .ref b] ∧ IsWeb C H a ks ys ∧ t ∈ ys.map (·.2) ∧ H b = some (.tup [.str t.1, .str t.2]) ∧
  ∀ q H', Ex H H' → H' q = some (.tup (rf (ys.filter fun u => !decide (u.2 = t)))) → Q (.ref q) H'
def spWJW (C : Addr) : Sp := fun vs H Q _ => ∃ (a b : Addr) (ks : List Str) (ys : TL) (t : Str × Str), vs = [.ref a, .ref b] ∧ IsWeb C H a ks ys ∧ t ∈ ys.map (·.2) ∧ H b = some (.tup [.str t.1, .str t.2]) ∧
  ∀ H', Ex H H' → Q (.bl (joinB ks (butL t (ys.map (·.2))))) H'
def spWBri (C : Addr) : Sp := fun vs H Q _ => ∃ (a : Addr) (ks : List Str) (ys : TL), vs = [.ref a] ∧ IsWeb C H a ks ys ∧
  ∀ q H', Ex H H' → H' q = some (.tup (rf (ys.filter fun u => !joinB ks (butL u.2 (ys.map (·.2)))))) → TA H' (ys.filter fun u => !joinB ks (butL u.2 (ys.map (·.2)))) → Q (.ref q) H'
def spWTAt (C : Addr) : Sp := fun vs H Q _ => ∃ (a : Addr) (x : Str) (ks : List Str) (ys : TL), vs = [.ref a, .str x] ∧ IsWeb C H a ks ys ∧ x ∈ ks ∧
  ∀ q H', Ex H H' → H' q = some (.tup (rf (ys.filter fun u => hits x u.2))) → TA H' (ys.filter fun u => hits x u.2) → Q (.ref q) H'
def spWTied (C : Addr) : Sp := fun vs H Q _ => ∃ (a : Addr) (x y : Str) (ks : List Str) (ys : TL), vs = [.ref a, .str x, .str y] ∧ IsWeb C H a ks ys ∧ x ∈ ks ∧ y ∈ ks ∧ Q (.bl (decide (y ∈ endsL (ys.map (·.2)) x))) H
section
variable {P : Program} {w : World} {K : PySem.W.Frag} {mg : Str → Option Value} {base : Heap}
theorem scWSpare : FnScope ["self"] ["self"] (defScope sWSpare) := ⟨rfl, rfl, rfl, by decide +kernel, rfl, by decide +kernel, by decide +kernel⟩
theorem scWLen : FnScope ["self"] ["self"] (defScope sWLen) := ⟨rfl, rfl, rfl, by decide +kernel, rfl, by decide +kernel, by decide +kernel⟩
theorem ok_wlen {f C : Addr} {fd : FuncData} (F : Fun K "__len__" "Web.__len__" sWLen f fd) (WK : WebK K C) (gLe : mg "len" = none) : FnOk P w K mg base CX0 1 f fd ["self"] (spWLen C) := by
  have nd := scWLen.nd
  refine F.ok scWLen (fun vs H Q E h => ?_) (fun cdv A outer s H vs Q E hr h => ⟨_, (pss_one (ps_ret (pe_callB call_len_seq (by rfl) gLe (by decide +kernel) (pa_cons (pe_fld (pv 0) rfl) pa_nil)))), ?_⟩)
  · obtain ⟨a, ks, ys, rfl, _⟩ := h
    rfl
  · obtain ⟨a, ks, ys, rfl, wb, k⟩ := h
    obtain ⟨dx, p, q, n, nl, h1, wa, _⟩ := wb.at_
    walk_at "rd"
    unfold tFld
    walk_at "rd"
    refine ⟨a, C, dx, _, .ref p, rfl, h1, WK.cls, WK.np, rfl, ?_⟩
    walk_at "rd"
    refine ⟨p, _, rfl, Or.inr (SqT.of wa.ps), ?_⟩
    rw [List.length_map]
    exact k
theorem scWBut : FnScope NBut ["self", "tie"] (defScope sWBut) := ⟨rfl, rfl, rfl, by decide +kernel, rfl, by decide +kernel, by decide +kernel⟩
theorem scWJW : FnScope ["self", "tie"] ["self", "tie"] (defScope sWJW) := ⟨rfl, rfl, rfl, by decide +kernel, rfl, by decide +kernel, by decide +kernel⟩
theorem one_of {ks : List Str} {ts : List (Str × Str)} (ok : WebOk ks ts) : 1 ≤ ks.length := Nat.le_trans (by decide) ok.two
theorem but_map (ys : TL) (t : Str × Str) : (ys.filter fun u => !decide (u.2 = t)).map (·.2) = butL t (ys.map (·.2)) := by
  unfold butL
  rw [List.filter_map]
  rfl
theorem first_in {ks : List Str} (h : 1 ≤ ks.length) : ks.getD 0 "" ∈ ks ∧ atI (ks.map V.str) 0 = some (.str (ks.getD 0 "")) := by
  cases ks with
  | nil => exact absurd h (by decide)
  | cons a r => exact ⟨List.mem_cons_self, by unfold atI ixN; simp⟩
/-- the row that is reached is the row of places just if all are joined -/
theorem reach_eq {ks l : List Str} {ts : List (Str × Str)} (two : 1 ≤ ks.length) (asc : ks.Pairwise (fun a b => OwL2.lt a b = true)) (ends : ∀ t ∈ ts, t.1 ∈ ks ∧ t.2 ∈ ks ∧ OwL2.lt t.1 t.2 = true) (so : sortedS l = true) (nd : l.Nodup) (h : ∀ k, k ∈ l ↔ Rch ts (ks.getD 0 "") k) : decide (l = ks) = joinB ks ts := by
  have la := ascB_pw (r := OwL2.lt) (fun h g => lt_tr h g) (asc_sorted so nd)
  by_cases c : Joined ks ts
  · rw [joinB_true.mpr c, decide_eq_true]
    exact asc_eq la asc fun k => ⟨fun hk => rch_in ends (first_in two).1 ((h k).mp hk), fun hk => (h k).mpr (c k hk)⟩
  · have z : joinB ks ts = false := Bool.eq_false_iff.mpr fun e => c (joinB_true.mp e)
    rw [z, decide_eq_false]
    rintro rfl
    exact c fun k hk => (h k).mp hk
theorem scWBri : FnScope ["self", "tie"] ["self"] (defScope sWBri) := ⟨rfl, rfl, rfl, by decide +kernel, rfl, by decide +kernel, by decide +kernel⟩
theorem scWTAt : FnScope NTAt ["self", "place"] (defScope sWTAt) := ⟨rfl, rfl, rfl, by decide +kernel, rfl, by decide +kernel, by decide +kernel⟩
theorem scWTied : FnScope ["self", "a", "b"] ["self", "a", "b"] (defScope sWTied) := ⟨rfl, rfl, rfl, by decide +kernel, rfl, by decide +kernel, by decide +kernel⟩
end
end OwW


namespace OwW
open PySem PyProof.Rows L2 L2H OwX Rd Evl
abbrev sPlSet : Stmt := top 18
abbrev NPs : List Str := ["web", "value", "place"]
abbrev sWNeedS : Stmt := mth 15 23
abbrev sWWith : Stmt := mth 15 12
abbrev sWAcr : Stmt := mth 15 13
abbrev sWHang : Stmt := mth 15 11
abbrev NWw : List Str := ["self", "places", "a", "b"]
abbrev NHg : List Str := ["self", "places", "inside"]
/-- of a row of ties those that g keeps, told anew -/
theorem lc_pairs {J : It} {G : Hp → Prop} {ys : TL} (wk : Walk J (rf ys).length G (YAt (rf ys))) (g : Str × Str → Bool) {gt : TG} {tt : TT} {te : TE} {js : List Nat} {σ : L2.St} {H1 : Hp} {D : Addr} {Qd : Hp → Prop} (hD : H1 D = none) (hl : ys.length ≤ 1000) (hG : ∀ H', Ex H1 H' → G H')
    (hs : ∀ u ∈ ys, ∀ (H : Hp) (B : L2.St → Bool → Hp → Prop), Ex H1 H → (∀ σ2 H4, Ex H H4 → (g u.2 = true → ∀ R : V → Hp → Prop, (∀ p H5, Ex H4 H5 → H5 p = some (.tup [.str u.2.1, .str u.2.2]) → R (.ref p) H5) → te σ2 H4 R) → B σ2 (g u.2) H4) → gt (.ref u.1) (wipe σ js) H fun σ2 H2 => wipe σ2 js = wipe σ js ∧ tt σ2 H2 (B σ2))
    (hd : ∀ H (zs : TL), Ex H1 H → H D = some (.lst (rf zs)) → TA H zs → zs.map (·.2) = (ys.map (·.2)).filter g → Qd H) :
    ∃ W : Nat → Nat → Hp → Prop, (∃ m, W 0 m (upd H1 D (.lst []))) ∧ ∀ i m H, W i m H →
      (J.stop i H ∧ Qd H) ∨ (J.go i H ∧ ∃ Nx : Hp → Prop, (∀ H', Nx H' → ∃ m', m' < m ∧ W (i + 1) m' H') ∧ ∀ x H', J.yld i H x H' → gt x (wipe σ js) H' fun σ2 H2 => wipe σ2 js = wipe σ js ∧ tt σ2 H2 fun b H3 =>
        if b = true then te σ2 H3 fun y H4 => ∃ acc, H4 D = some (.lst acc) ∧ acc.length < sizeLine ∧ Nx (upd H4 D (.lst (acc ++ [y]))) else Nx H3) := by
  refine lc_it wk (fun i H => Ex H1 H ∧ ∃ zs : TL, H D = some (.lst (rf zs)) ∧ TA H zs ∧ zs.map (·.2) = ((ys.map (·.2)).take i).filter g) ⟨Ex.new hD, [], upd_same, (fun q hq => absurd hq (by simp) : TA _ []), rfl⟩ (fun i H _ hP => hG H hP.1) (fun i x H H' hi hP hY => ?_) (fun H hP => ?_)
  · obtain ⟨e1, zs, h1, tz, mz⟩ := hP
    obtain ⟨rfl, hx⟩ := hY
    rw [List.getElem?_map] at hx
    cases hu : ys[i]? with
    | none => rw [hu] at hx; exact nomatch hx
    | some u =>
      rw [hu] at hx
      cases hx
      have et : (ys.map (·.2)).take (i + 1) = (ys.map (·.2)).take i ++ [u.2] := by
        rw [List.take_add_one, List.getElem?_map, hu]
        rfl
      have lz : zs.length ≤ 1000 := by
        have z := congrArg List.length mz
        rw [List.length_map] at z
        rw [z]
        refine Nat.le_trans (List.length_filter_le _ _) ?_
        rw [List.length_take, List.length_map]
        omega
      refine hs u (List.mem_of_getElem? hu) _ _ e1 fun σ2 H4 e4 ht => ?_
      by_cases c : g u.2 = true
      · rw [if_pos c]
        refine ht c _ fun p H5 e5 h5 => ⟨rf zs, e5 _ _ (e4 _ _ h1), by rw [List.length_map]; exact small1000 lz, ((e1.trans e4).trans e5).mut hD, zs ++ [(p, u.2)], ?_, ?_, ?_⟩
        · rw [upd_same]
          unfold rf
          rw [List.map_append]
          rfl
        · intro q hq
          rcases List.mem_append.mp hq with hq | hq
          · have z := e5 _ _ (e4 _ _ (tz q hq))
            have n : q.1 ≠ D := fun e => by
              have y := tz q hq
              rw [e, h1] at y
              exact nomatch y
            rw [upd_ne n]
            exact z
          · rw [List.mem_singleton.mp hq]
            have n : p ≠ D := fun e => by
              have y := e5 _ _ (e4 _ _ h1)
              rw [e] at h5
              rw [h5] at y
              exact nomatch y
            exact (upd_ne n).trans h5
        · rw [List.map_append, mz, et, List.filter_append]
          simp [c]
      · rw [if_neg c]
        refine ⟨e1.trans e4, zs, e4 _ _ h1, tz.ex e4, ?_⟩
        rw [mz, et, List.filter_append]
        simp [c]
  · obtain ⟨e1, zs, h1, tz, mz⟩ := hP
    refine hd H zs e1 h1 tz ?_
    rw [mz, List.take_of_length_le]
    rw [List.length_map, List.length_map]
    exact Nat.le_refl _
def withinB (es : List Str) (t : Str × Str) : Bool := decide (t.1 ∈ es) && decide (t.2 ∈ es)
def acrossB (es : List Str) (t : Str × Str) : Bool := !decide (decide (t.1 ∈ es) = decide (t.2 ∈ es))
/-- a right set of places at p -/
def SetAt (H : Hp) (p : Addr) (ks es : List Str) : Prop := H p = some (.tup (es.map V.str)) ∧ es.length ≤ 9 ∧ (∀ e ∈ es, e ∈ ks) ∧ es.Pairwise (fun a b => OwL2.lt a b = true)
theorem SetAt.ex {H H' : Hp} {p : Addr} {ks es : List Str} (h : SetAt H p ks es) (e : Ex H H') : SetAt H' p ks es := ⟨e _ _ h.1, h.2⟩
def spPlSet (CW : Addr) : Sp := fun vs H Q _ => ∃ (wb p : Addr) (ks es : List Str) (ys : TL), vs = [.ref wb, .ref p] ∧ IsWeb CW H wb ks ys ∧ SetAt H p ks es ∧ ∀ H', Ex H H' → Q (.bl true) H'
def spWNeedS (CW : Addr) : Sp := fun vs H Q _ => ∃ (wb p : Addr) (ks es : List Str) (ys : TL), vs = [.ref wb, .ref p] ∧ IsWeb CW H wb ks ys ∧ SetAt H p ks es ∧ ∀ H', Ex H H' → Q .non H'
def spWKeep (CW : Addr) (g : List Str → Str × Str → Bool) : Sp := fun vs H Q _ => ∃ (wb p : Addr) (ks es : List Str) (ys : TL), vs = [.ref wb, .ref p] ∧ IsWeb CW H wb ks ys ∧ SetAt H p ks es ∧
  ∀ q H' (zs : TL), Ex H H' → H' q = some (.tup (rf zs)) → TA H' zs → zs.map (·.2) = (ys.map (·.2)).filter (g es) → Q (.ref q) H'
def spWHang (CW : Addr) : Sp := fun vs H Q _ => ∃ (wb p : Addr) (ks es : List Str) (ys : TL), vs = [.ref wb, .ref p] ∧ IsWeb CW H wb ks ys ∧ SetAt H p ks es ∧ 1 ≤ es.length ∧
  ∀ H', Ex H H' → Q (.bl (joinB es ((ys.map (·.2)).filter (withinB es)))) H'
section
variable {P : Program} {w : World} {K : PySem.W.Frag} {mg : Str → Option Value} {base : Heap}
theorem scPlSet : FnScope NPs ["web", "value"] (defScope sPlSet) := ⟨rfl, rfl, rfl, by decide +kernel, rfl, by decide +kernel, by decide +kernel⟩
theorem ok_plset {f C : Addr} {fd : FuncData} (F : Fun K "is_place_set" "is_place_set" sPlSet f fd) (cA : Cl P w K mg base 1 "ascends" ["row"] spAsc) (cP : Pt P w K mg base 1 C "places" (spWPlaces C)) (WK : WebK K C) (T : BltB mg) : FnOk P w K mg base CX0 3 f fd ["web", "value"] (spPlSet C) := by
  have nd := scPlSet.nd
  refine F.ok scPlSet (fun vs H Q E h => ?_) (fun cdv A outer s H vs Q E hr h => ⟨_, (pss_cons (ps_if ((pw_or (pt_not (pt_val (pe_callB call_isi (by rfl) T.isinst (by decide +kernel) (pa_cons (pv 1) (pa_cons (pe_bltn (v := .ty "tuple") (by rfl) T.tuple (by decide +kernel) rfl) pa_nil))) (fun _ => rfl))) (pw_or1 (pt_not (pt_val (pe_callB (cr_all rfl) (by rfl) T.all (by decide +kernel) (pa_cons (pe_lc (own := [("place", 2)]) (g := gName 2) (tt := tYes) (te := tOp (rIn K false) (tVar 2) (tProp C (spWPlaces C) [] E0 (tVar 0))) rfl nd (pi_tup (pv 1)) (blkOk_by (own := [("place", 2)]) (N := NPs) (sc := defScope sPlSet) (by decide +kernel)) (fun _ _ _ _ _ => (pg_name (i := 2) nd rfl (Or.inl rfl))) (fun _ _ _ _ _ => pts_nil) (fun _ _ _ _ _ => (pe_cmpR op_in_seq (pv 2) (pe_prop (pv 0) WK.cls cP.po cP.ok (hr.mono (by decide)) cP.bd .nil pass0 rfl) (by with_unfolding_all rfl)))) pa_nil)) (fun _ => rfl)))))).pt (pss_one (ps_ret pe_bl)) pss_nil)
    (pss_one (ps_ret (pe_call cA.ok (hr.mono (by decide)) (by rfl) cA.gl cA.kp cA.bd .nil pass0 (pa_cons (pv 1) pa_nil))))), ?_⟩)
  · obtain ⟨wb, p, ks, es, ys, rfl, _⟩ := h
    rfl
  · obtain ⟨wb, p, ks, es, ys, rfl, hw, ⟨hp, e9, sub, asc⟩, k⟩ := h
    have nam : ∀ e ∈ es, nameB e = true := fun e he => hw.ok.names _ (sub e he)
    obtain ⟨dy, p0, q, nw, nl, w1, wa, w3, w4, w5⟩ := hw.at_
    walk_at "rd"
    refine Rd.isi (.tup hp (by rw [List.length_map]; omega) (dhS nam)) (by decide) ⟨_, rfl, ?_⟩
    refine Rd.iteF (by simp [isD, tyD]) ?_
    walk_at "rd"
    refine Rd.lcm' ?_
    refine ⟨_, rfl, p, rfl, ⟨_, SqT.of hp⟩, fun D hD => ?_⟩
    refine Rd.lc_mapG (walk_tup (xs := es.map V.str)) (fun _ => V.bl true) hD (by rw [List.length_map]; omega) (fun H' e => ex_t e (SqT.of hp)) (fun i y Ha Hb R hi ea y1 hR => ?_) (fun H2 e2 h2 => ?_)
    · obtain ⟨rfl, y2⟩ := y1
      rw [List.getElem?_map] at y2
      obtain ⟨b, hb, rfl⟩ := Option.map_eq_some_iff.mp y2
      have bm := List.mem_of_getElem? hb
      show _ ∧ _
      refine ⟨rfl, ?_⟩
      unfold tOp tProp
      walk_at "rd"
      refine ⟨wb, dy, _, rfl, ea _ _ w1, wb, ks, ys, rfl, hw.ex ea, fun p' hp' => ?_⟩
      refine ⟨p', _, rfl, Or.inr (SqT.of hp'), rfl, flat_strs ks, ?_⟩
      have z : (if false = true then !inV (.str b) (ks.map V.str) else inV (.str b) (ks.map V.str)) = true := by
        rw [if_neg (by decide), in_strs (sub b bm)]
      rw [z]
      exact hR Hb (Ex.refl _)
    · walk_at "rd"
      rw [bls _ (fun _ => true)] at h2
      refine ⟨_, _, rfl, SqL.of h2, ?_⟩
      have al : ((List.range (es.map V.str).length).map fun _ => true).all id = true := by simp
      rw [al]
      refine ⟨_, rfl, ?_⟩
      refine Rd.iteF (by decide) ?_
      walk_at "rd"
      refine ⟨p, rfl, Or.inl ⟨es, e2 _ _ hp, by omega, fun H3 e3 => ?_⟩⟩
      rw [ascB_of (r := OwL2.lt) asc]
      exact k H3 (e2.trans e3)
theorem scWNeedS : FnScope ["self", "places"] ["self", "places"] (defScope sWNeedS) := ⟨rfl, rfl, rfl, by decide +kernel, rfl, by decide +kernel, by decide +kernel⟩
theorem ok_wneeds {f C : Addr} {fd : FuncData} (F : Fun K "_need_set" "Web._need_set" sWNeedS f fd) (cS : Cl P w K mg base 3 "is_place_set" ["web", "value"] (spPlSet C)) : FnOk P w K mg base CX0 4 f fd ["self", "places"] (spWNeedS C) := by
  have nd := scWNeedS.nd
  refine F.ok scWNeedS (fun vs H Q E h => ?_) (fun cdv A outer s H vs Q E hr h => ⟨_, (pss_one (ps_if (pt_not (pt_val (pe_call cS.ok (hr.mono (by decide)) (by rfl) cS.gl cS.kp cS.bd .nil pass0 (pa_cons (pv 0) (pa_cons (pv 1) pa_nil))) (fun _ => rfl))) pss_dead pss_nil)), ?_⟩)
  · obtain ⟨wb, p, ks, es, ys, rfl, _⟩ := h
    rfl
  · obtain ⟨wb, p, ks, es, ys, rfl, hw, hs, k⟩ := h
    walk_at "rd"
    refine ⟨wb, p, ks, es, ys, rfl, hw, hs, fun H' e => ⟨_, rfl, ?_⟩⟩
    exact Rd.iteF (by decide) (k H' e)
theorem scWWith : FnScope NWw ["self", "places"] (defScope sWWith) := ⟨rfl, rfl, rfl, by decide +kernel, rfl, by decide +kernel, by decide +kernel⟩
theorem scWAcr : FnScope NWw ["self", "places"] (defScope sWAcr) := ⟨rfl, rfl, rfl, by decide +kernel, rfl, by decide +kernel, by decide +kernel⟩
theorem ok_wacr {f C : Addr} {fd : FuncData} (F : Fun K "ties_across" "Web.ties_across" sWAcr f fd) (WK : WebK K C) (cS : Mt P w K mg base 4 C "_need_set" ["self", "places"] (spWNeedS C)) (gTu : mg "tuple" = none) : FnOk P w K mg base CX0 5 f fd ["self", "places"] (spWKeep C acrossB) := by
  have nd := scWAcr.nd
  refine F.ok scWAcr (fun vs H Q E h => ?_) (fun cdv A outer s H vs Q E hr h => ⟨_, (pss_cons (ps_expr (pe_meth (pv 0) WK.cls cS.me cS.ok (hr.mono (by decide)) cS.bd .nil pass0 (pa_cons (pv 1) pa_nil)))
    (pss_one (ps_ret (pe_callTy call_tuple_of (by rfl) gTu (by decide +kernel) (pa_cons (pe_lc (own := [("a", 2), ("b", 3)]) (g := gTup K 2 (gCons (gName 2) (gCons (gName 3) gNil))) (tt := tTest (tOp rNe (tOp (rIn K false) (tVar 2) (tVar 1)) (tOp (rIn K false) (tVar 3) (tVar 1)))) rfl nd (pi_tup (pe_fld (pv 0) rfl)) (blkOk_by (own := [("a", 2), ("b", 3)]) (N := NWw) (sc := defScope sWAcr) (by decide +kernel)) (fun _ _ _ _ _ => (pg_tup rfl (pgs_cons (pg_name (i := 2) nd rfl (Or.inl rfl)) (pgs_cons (pg_name (i := 3) nd rfl (Or.inl rfl)) pgs_nil)))) (fun _ _ _ _ _ => (pts_one (pt_cmpR op_ne (pe_cmpR op_in_seq (pv 2) (pv 1) (by with_unfolding_all rfl)) (pe_cmpR op_in_seq (pv 3) (pv 1) (by with_unfolding_all rfl)) (nomark _)))) (fun _ _ _ _ _ => (pe_tup (pa_cons (pv 2) (pa_cons (pv 3) pa_nil))))) pa_nil))))), ?_⟩)
  · obtain ⟨wb, p, ks, es, ys, rfl, _⟩ := h
    rfl
  · obtain ⟨wb, p, ks, es, ys, rfl, hw, hs, k⟩ := h
    obtain ⟨dx, pp, q, n, nl, h1, wa, _⟩ := hw.at_
    have few := hw.ok.few
    rw [List.length_map] at few
    rw [show L2.start NWw [V.ref wb, V.ref p] = [some (.ref wb), some (.ref p), none, none] from rfl]
    walk_at "rd"
    unfold tMeth
    walk_at "rd"
    refine ⟨wb, dx, _, rfl, h1, rfl, ?_⟩
    walk_at "rd"
    refine ⟨wb, p, ks, es, ys, rfl, hw, hs, fun H1 e1 => ?_⟩
    walk_at "rd"
    have wa1 := wa.ex e1
    have hs1 := hs.ex e1
    refine Rd.lcm' ?_
    unfold iTup tFld
    walk_at "rd"
    refine ⟨wb, C, dx, _, .ref q, rfl, e1 _ _ h1, WK.cls, WK.nt, rfl, q, rfl, ⟨_, SqT.of wa1.ts⟩, fun D hD => ?_⟩
    refine lc_pairs (walk_tup (xs := rf ys)) (acrossB es) hD (by omega) (fun H' e => ex_t e (SqT.of wa1.ts)) (fun u hu Ha B ea hB => ?_) (fun H2 zs e2 h2 tz mz => ?_)
    · refine ⟨u.1, [.str u.2.1, .str u.2.2], rfl, SqT.of (wa1.ta.ex ea u hu), rfl, .str u.2.1, [.str u.2.2], rfl, ?_⟩
      walk_at "rd"
      refine ⟨.str u.2.2, [], rfl, ?_⟩
      walk_at "rd"
      refine ⟨rfl, ?_⟩
      show _ ∧ _
      refine ⟨rfl, ?_⟩
      walk_at "rd"
      have hp' := ea _ _ hs1.1
      refine ⟨p, _, rfl, Or.inr (SqT.of hp'), rfl, flat_strs es, ?_⟩
      walk_at "rd"
      refine ⟨p, _, rfl, Or.inr (SqT.of hp'), rfl, flat_strs es, ?_⟩
      have z1 : (if false = true then !inV (.str u.2.1) (es.map V.str) else inV (.str u.2.1) (es.map V.str)) = decide (u.2.1 ∈ es) := by rw [if_neg (by decide), inV_strs]
      have z2 : (if false = true then !inV (.str u.2.2) (es.map V.str) else inV (.str u.2.2) (es.map V.str)) = decide (u.2.2 ∈ es) := by rw [if_neg (by decide), inV_strs]
      rw [z1, z2]
      refine Rd.ne rfl ?_
      have e0 : (!decide (V.bl (decide (u.2.1 ∈ es)) = V.bl (decide (u.2.2 ∈ es)))) = acrossB es u.2 := by
        unfold acrossB
        by_cases c : u.2.1 ∈ es <;> by_cases d : u.2.2 ∈ es <;> simp [c, d]
      rw [e0]
      refine ⟨_, rfl, ?_⟩
      refine hB _ _ (Ex.refl _) fun _ R hR => ?_
      walk_at "rd"
      exact ⟨small64 (n := 2) (by decide), fun t ht => hR t _ (Ex.new ht) upd_same⟩
    · walk_at "rd"
      refine ⟨D, _, rfl, Or.inl ⟨SqL.of h2, fun l hl2 => ?_⟩⟩
      have e4 := e2.trans (Ex.new (o := .tup (rf zs)) hl2)
      exact k l _ zs (e1.trans e4) upd_same (tz.ex (Ex.new hl2)) mz
theorem scWHang : FnScope NHg ["self", "places"] (defScope sWHang) := ⟨rfl, rfl, rfl, by decide +kernel, rfl, by decide +kernel, by decide +kernel⟩
end
end OwW


namespace OwW
open PySem PyProof.Rows L2 L2H OwX Rd Evl
def spLWebN : Sp := fun vs H Q _ => ∃ (a : Addr) (m sp : Nat), vs = [.ref a, .int m, .int sp] ∧ HasDice H a ∧ 2 ≤ m ∧ m ≤ 9 ∧ sp ≤ 9 ∧
  ∀ d H' (ks : List Str) (zs : TL), DX a H H' → PlainAt (wo a H') d ks zs → WebOk ks (zs.map (·.2)) → (∀ k ∈ ks, k ∈ names14) → ks.length ≤ m → H d = none → Q (.ref d) H'
section
variable {P : Program} {w : World} {K : PySem.W.Frag} {mg : Str → Option Value} {base : Heap}
theorem ok_lwebN {f f1 f2 f3 f4 f5 f6 : Addr} {fd d1 d2 d3 d4 d5 d6 : FuncData} (F : Fun K "_law_web" "_law_web" sLWeb f fd)
    (FM : Fun K "_law_mixed" "_law_mixed" sMixed f1 d1) (gM : mg "_law_mixed" = some (.ref f1)) (GM : FnOk P w K mg base CX0 2 f1 d1 ["_law_dice_here", "_law_items"] spMixed)
    (FN : Fun K "_law_names" "_law_names" sLNames f2 d2) (gN : mg "_law_names" = some (.ref f2)) (GN : FnOk P w K mg base CX0 1 f2 d2 [] spLNames)
    (FR : Fun K "_law_roll" "_law_roll" sRoll f3 d3) (gR : mg "_law_roll" = some (.ref f3)) (GR : FnOk P w K mg base CX0 1 f3 d3 ["_law_dice_here", "_law_total"] spRoll)
    (FT : Fun K "_law_tie" "_law_tie" sTie f4 d4) (gT : mg "_law_tie" = some (.ref f4)) (GT : FnOk P w K mg base CX0 1 f4 d4 ["_law_a", "_law_b"] spTie)
    (FP : Fun K "_law_pairs" "_law_pairs" sPairs f5 d5) (gP : mg "_law_pairs" = some (.ref f5)) (GP : FnOk P w K mg base CX0 2 f5 d5 ["_law_places"] spPairs)
    (FL : Fun K "_law_plain" "_law_plain" sPlain f6 d6) (gL : mg "_law_plain" = some (.ref f6)) (GL : FnOk P w K mg base CX0 2 f6 d6 ["_law_places", "_law_ties"] spPlain) (T : BltM mg) : FnOk P w K mg base CX0 3 f fd ["_law_dice_here", "_law_most", "_law_spare"] spLWebN := by
  have nd := scLWeb.nd
  have bM : Binds K d1 ["_law_dice_here", "_law_items"] [] := FM.binds fun _ _ _ _ _ _ us hl => match us, hl with | [_, _], _ => rfl
  have bN : Binds K d2 [] [] := FN.binds fun _ _ _ _ _ _ us hl => match us, hl with | [], _ => rfl
  have bR := rollBinds FR
  have bT : Binds K d4 ["_law_a", "_law_b"] [] := FT.binds fun _ _ _ _ _ _ us hl => match us, hl with | [_, _], _ => rfl
  have bP : Binds K d5 ["_law_places"] [] := FP.binds fun _ _ _ _ _ _ us hl => match us, hl with | [_], _ => rfl
  have bL : Binds K d6 ["_law_places", "_law_ties"] [] := FL.binds fun _ _ _ _ _ _ us hl => match us, hl with | [_, _], _ => rfl
  refine F.ok scLWeb (fun vs H Q E h => ?_) (fun cdv A outer s H vs Q E hr h => ⟨_, (pss_cons (ps_set (i := 3) nd rfl (Or.inr rfl) (pe_slice sl_list (pe_call GM (hr.mono (by decide)) (by rfl) gM FM.kp bM .nil pass0 (pa_cons (pv 0) (pa_cons (pe_call0 GN (hr.mono (by decide)) (by rfl) gN FN.kp bN .nil pass0) pa_nil))) po_none (po_some (pe_op op_add pe_int (pe_call GR (hr.mono (by decide)) (by rfl) gR FR.kp bR .nil pass0 (pa_cons (pv 0) (pa_cons (pe_op op_sub (pv 1) pe_int) pa_nil)))))))
    (pss_cons (ps_set (i := 4) nd rfl (Or.inr rfl) (pe_lc (own := [("_law_at", 6)]) (g := gName 6) (tt := tYes) (te := tCall spTie [] E0 (tCons (tOp (rIxL K) (tVar 3) (tVar 6)) (tCons (tOp (rIxL K) (tVar 3) (tCall spRoll [] E0 (tCons (tVar 0) (tCons (tVar 6) tNil)))) tNil))) rfl nd (pi_range2 rfl T.range (pa_cons pe_int (pa_cons (pe_callB call_len_seq (by rfl) T.len (by decide +kernel) (pa_cons (pv 3) pa_nil)) pa_nil))) (blkOk_by (own := [("_law_at", 6)]) (N := NLw) (sc := defScope sLWeb) (by decide +kernel)) (fun _ _ _ _ _ => (pg_name (i := 6) nd rfl (Or.inl rfl))) (fun _ _ _ _ _ => pts_nil) (fun _ _ _ _ _ => (pe_call GT (hr.mono (by decide)) (by rfl) gT FT.kp bT .nil pass0 (pa_cons (pe_ix ix_list (pv 3) (pv 6) (fun _ _ => rfl)) (pa_cons (pe_ix ix_list (pv 3) (pe_call GR (hr.mono (by decide)) (by rfl) gR FR.kp bR .nil pass0 (pa_cons (pv 0) (pa_cons (pv 6) pa_nil))) (fun _ _ => rfl)) pa_nil))))))
    (pss_cons (ps_set (i := 5) nd rfl (Or.inl rfl) (pe_call GM (hr.mono (by decide)) (by rfl) gM FM.kp bM .nil pass0 (pa_cons (pv 0) (pa_cons (pe_lc (own := [("_law_tie_here", 7)]) (g := gName 7) (tt := tTest (tOp (rNotInD K) (tVar 7) (tVar 4))) rfl nd (pi_list (pe_call GP (hr.mono (by decide)) (by rfl) gP FP.kp bP .nil pass0 (pa_cons (pe_callB cr_sortedS (by rfl) T.sorted (by decide +kernel) (pa_cons (pv 3) pa_nil)) pa_nil))) (blkOk_by (own := [("_law_tie_here", 7)]) (N := NLw) (sc := defScope sLWeb) (by decide +kernel)) (fun _ _ _ _ _ => (pg_name (i := 7) nd rfl (Or.inl rfl))) (fun _ _ _ _ _ => (pts_one (pt_cmpR (op_notInD (units65 hr)) (pv 7) (pv 4) (by with_unfolding_all rfl)))) (fun _ _ _ _ _ => (pv 7))) pa_nil))))
    (pss_one (ps_ret (pe_call GL (hr.mono (by decide)) (by rfl) gL FL.kp bL .nil pass0 (pa_cons (pe_lstN pa_nil) (pa_cons (pe_op op_cat (pv 4) (pe_slice sl_list (pv 5) po_none (po_some (pe_call GR (hr.mono (by decide)) (by rfl) gR FR.kp bR .nil pass0 (pa_cons (pv 0) (pa_cons (pe_op op_add (pv 2) pe_int) pa_nil)))))) pa_nil)))))))), ?_⟩)
  · obtain ⟨a, m, sp, rfl, _⟩ := h
    rfl
  · obtain ⟨a, m, sp, rfl, hd, m2, m9, s9, k⟩ := h
    walk_at "rd"
    unfold tSl
    walk_at "rd"
    refine ⟨rfl, fun p H1 e1 hp1 hn1 => ?_⟩
    have x1 : DX a H H1 := DX.of e1 hd
    walk_at "rd"
    refine ⟨a, p, names14.map V.str, rfl, x1.at_, wo_of hp1 (fresh_ne hd hn1), by decide, fun M ms H2 pm x2 hM hMn => ?_⟩
    obtain ⟨ns, rfl, pmn⟩ := OwP.perm_unmap V.str pm names14 rfl
    unfold tNoPart tPart
    walk_at "rd"
    refine roll_dx x2.at_ (by omega) (by omega) fun r H3 r0 r1 x3 => ?_
    obtain ⟨rn, rfl⟩ := Int.eq_ofNat_of_zero_le r0
    walk_at "rd"
    refine ⟨_, rfl, ?_⟩
    walk_at "rd"
    have mM := wo_in a _ _ _ (x3.ex _ _ hM)
    have nl : ns.length = 14 := pmn.length_eq
    have ec : cutV (ns.map V.str) none (some (2 + (rn : Int))) = (ns.take (2 + rn)).map V.str := by rw [cut_take _ (by rw [List.length_map]; omega), List.map_take]
    refine ⟨M, _, rfl, SqL.of mM, fun S hS => ?_⟩
    rw [ec]
    have x4 : DX a H (upd H3 S (.lst ((ns.take (2 + rn)).map V.str))) := ((x1.trans x2).trans x3).then (Ex.new hS)
    have s4 : wo a (upd H3 S (.lst ((ns.take (2 + rn)).map V.str))) S = some (.lst ((ns.take (2 + rn)).map V.str)) := wo_of upd_same (fresh_ne x3.at_ hS)
    generalize upd H3 S (.lst ((ns.take (2 + rn)).map V.str)) = H4 at x4 s4 ⊢
    have wl : (ns.take (2 + rn)).length = 2 + rn := by rw [List.length_take]; omega
    have wnd : (ns.take (2 + rn)).Nodup := (pmn.symm.nodup names14_nd).sublist (List.take_sublist _ _)
    have wok : ∀ k ∈ ns.take (2 + rn), nameB k = true := fun k hk => names14_ok k (pmn.mem_iff.mp (List.mem_of_mem_take hk))
    have win : ∀ k ∈ ns.take (2 + rn), k ∈ names14 := fun k hk => pmn.mem_iff.mp (List.mem_of_mem_take hk)
    generalize ns.take (2 + rn) = ws at s4 wl wnd wok win
    clear ec mM nl pmn pm hM
    have w9 : ws.length ≤ 9 := by omega
    have wm : ws.length ≤ m := by omega
    have w2 : 2 ≤ ws.length := by omega
    walk_at "rd"
    refine Rd.lcm' ?_
    unfold iRng2
    walk_at "rd"
    have S4 := wo_in a _ _ _ s4
    refine ⟨S, _, rfl, Or.inl (SqL.of S4), ?_⟩
    walk_at "rd"
    rw [List.length_map]
    refine ⟨1, _, rfl, ⟨by omega, by omega, by omega, by omega⟩, fun D hD => ?_⟩
    have Da := fresh_ne x4.at_ hD
    have en : (((ws.length : Nat) : Int) - 1).toNat = ws.length - 1 := by omega
    rw [en]
    refine lc_it (walk_range (lo := 1)) (fun i H' => DX a H4 H' ∧ ∃ zs : TL, H' D = some (.lst (rf zs)) ∧ TA (wo a H') zs ∧ zs.length = i ∧ ∀ j t, zs[j]? = some t → ∃ q b c, q < j + 1 ∧ ws[j + 1]? = some b ∧ ws[q]? = some c ∧ t.2 = norm (b, c)) ⟨(DX.of (Ex.refl _) x4.at_).mut hD Da, [], upd_same, (fun _ h => nomatch h), rfl, fun _ _ h => nomatch h⟩ (fun _ _ _ _ => trivial) (fun i z Ha Hb hi hP hY => ?_) (fun H5 hP => ?_)
    · obtain ⟨x5, zs, hz5, taz, zl, tree⟩ := hP
      obtain ⟨rfl, rfl⟩ := hY
      show _ ∧ _
      refine ⟨rfl, ?_⟩
      unfold tYes
      show (if (true : Bool) = true then _ else _)
      rw [if_pos rfl]
      walk_at "rd"
      obtain ⟨b, hb⟩ : ∃ b, ws[i + 1]? = some b := ⟨_, List.getElem?_eq_getElem (by omega)⟩
      have S5 := wo_in a _ _ _ (x5.ex _ _ s4)
      show rIxL K (.ref S) (.int (1 + (i : Int))) Hb _
      refine Rd.ixl (SqL.of S5) (at_nat (i + 1) (by omega) (by rw [List.getElem?_map, hb]; rfl)) ?_
      walk_at "rd"
      refine roll_dx x5.at_ (by omega) (by omega) fun r H6 r0 r1 x6 => ?_
      obtain ⟨q, rfl⟩ := Int.eq_ofNat_of_zero_le r0
      obtain ⟨c, hc⟩ : ∃ c, ws[q]? = some c := ⟨_, List.getElem?_eq_getElem (by omega)⟩
      have S6 := wo_in a _ _ _ (x6.ex _ _ (x5.ex _ _ s4))
      refine Rd.ixl (SqL.of S6) (at_nat q rfl (by rw [List.getElem?_map, hc]; rfl)) ?_
      walk_at "rd"
      have hz6 := x6.ex _ _ (wo_of hz5 Da)
      refine ⟨b, c, rfl, fun p7 H7 e7 hp7 hn7 => ⟨rf zs, e7 _ _ (wo_in a _ _ _ hz6), sz_lt (by unfold rf; rw [List.length_map]; omega), ((x5.trans x6).then e7).mut hD Da, zs ++ [(p7, norm (b, c))], ?_, fun z hz => ?_, by rw [List.length_append, zl]; rfl, fun j t ht => ?_⟩⟩
      · unfold rf
        rw [List.map_append]
        exact upd_same
      · have ha7 := fresh_ne x6.at_ hn7
        have hDD := e7 _ _ (wo_in a _ _ _ hz6)
        have key : wo a H7 z.1 = some (.tup [V.str z.2.1, V.str z.2.2]) := by
          rcases List.mem_append.mp hz with y | y
          · exact wo_ex e7 _ _ (x6.ex _ _ (taz z y))
          · rw [List.mem_singleton.mp y]
            exact wo_of hp7 ha7
        have ne : z.1 ≠ D := fun e => by
          have y := wo_in a _ _ _ key
          rw [e, hDD] at y
          exact nomatch y
        have na : z.1 ≠ a := fun e => by
          rw [e] at key
          unfold wo at key
          rw [if_pos rfl] at key
          exact nomatch key
        exact wo_of ((upd_ne ne).trans (wo_in a _ _ _ key)) na
      · by_cases cj : j < zs.length
        · rw [List.getElem?_append_left cj] at ht
          exact tree j t ht
        · have jl : j < (zs ++ [(p7, norm (b, c))]).length := (List.getElem?_eq_some_iff.mp ht).1
          rw [List.length_append] at jl
          have je : j = i := by
            have : j < zs.length + 1 := jl
            omega
          subst je
          rw [List.getElem?_append_right (by omega), zl, Nat.sub_self] at ht
          cases ht
          exact ⟨q, b, c, by omega, hb, hc, rfl⟩
    · obtain ⟨x5, zs, hz5, taz, zl, tree⟩ := hP
      walk_at "rd"
      refine Rd.lcm' (Rd.ilist' ?_)
      walk_at "rd"
      have S5 := wo_in a _ _ _ (x5.ex _ _ s4)
      refine ⟨S, ws, rfl, SqL.of S5, by omega, fun ss q pms so hq => ?_⟩
      walk_at "rd"
      have snd : ss.Nodup := pms.symm.nodup wnd
      refine ⟨q, ss, rfl, upd_same, by rw [pms.length_eq]; exact w9, snd, fun P6 H6 fs e6 hf6 taf fl mf hn6 => ?_⟩
      refine ⟨P6, rfl, ⟨_, SqL.of hf6⟩, fun D2 hD2 => ?_⟩
      have x6 : DX a H4 H6 := (x5.then (Ex.new hq)).then e6
      have z6 : wo a H6 D = some (.lst (rf zs)) := wo_ex ((Ex.new hq).trans e6) _ _ (wo_of hz5 Da)
      have taz6 : TA (wo a H6) zs := taz.ex (wo_ex ((Ex.new hq).trans e6))
      have zok : ∀ t ∈ zs.map (·.2), nameB t.1 = true ∧ nameB t.2 = true := fun t ht => by
        obtain ⟨u, hu, rfl⟩ := List.mem_map.mp ht
        obtain ⟨j, hj⟩ := List.getElem?_of_mem hu
        obtain ⟨q', b, c, hq', hb, hc, e⟩ := tree j u hj
        have nbc : b ≠ c := fun e' => by
          have z := (List.getElem?_inj (List.getElem?_eq_some_iff.mp hb).1 wnd).mp (hb.trans (by rw [hc, e']))
          omega
        have m := made_lt (ks := ws) (t := u.2) ⟨b, c, List.mem_of_getElem? hb, List.mem_of_getElem? hc, nbc, e⟩
        exact ⟨wok _ m.1, wok _ m.2.1⟩
      refine lc_it (walk_list (xs := rf fs)) (fun i H' => Ex H6 H' ∧ ∃ gs : TL, H' D2 = some (.lst (rf gs)) ∧ gs.length ≤ i ∧ ∀ t ∈ gs, t ∈ fs) ⟨Ex.new hD2, [], upd_same, Nat.zero_le _, fun _ h => nomatch h⟩ (fun i H' _ hP => SqL.of (hP.1 _ _ hf6)) (fun i z Ha Hb hi hP hY => ?_) (fun H7 hP => ?_)
      · obtain ⟨e7, gs, hg7, gl, gsub⟩ := hP
        obtain ⟨rfl, hz⟩ := hY
        rw [List.getElem?_map] at hz
        cases ht : fs[i]? with
        | none => rw [ht] at hz; exact nomatch hz
        | some t =>
          rw [ht] at hz
          cases hz
          have tm := List.mem_of_getElem? ht
          have mt := made_lt (mf t.2 (List.mem_map.mpr ⟨t, tm, rfl⟩))
          have n1 := wok _ (pms.mem_iff.mp mt.1)
          have n2 := wok _ (pms.mem_iff.mp mt.2.1)
          have i100 : i < 100 := by
            have z : i < (rf fs).length := hi
            unfold rf at z
            rw [List.length_map] at z
            omega
          show _ ∧ _
          refine ⟨rfl, ?_⟩
          walk_at "rd"
          refine ⟨.tuple ([t.2.1, t.2.2].map PyData.str), (zs.map (·.2)).map pairD, .tup (SqT.of (taf.ex e7 t tm)) (dp_strsT [t.2.1, t.2.2]), .lst (SqL.of (e7 _ _ (wo_in a _ _ _ z6))) (dp_pairs (taz6.ex ((wo_in a H6).trans e7))), shaped_tup (fun s hs => ?_), shaped_pairs zok, ?_⟩
          · rcases List.mem_cons.mp hs with e | hs
            · rw [e]; exact n1
            · rw [List.mem_singleton.mp hs]; exact n2
          · generalize (!((zs.map (·.2)).map pairD).any fun z => PyData.eqv z (.tuple ([t.2.1, t.2.2].map PyData.str))) = kb
            refine ⟨kb, rfl, ?_⟩
            cases kb with
            | false =>
              rw [if_neg (by decide)]
              exact ⟨e7, gs, hg7, Nat.le_succ_of_le gl, gsub⟩
            | true =>
              rw [if_pos rfl]
              walk_at "rd"
              refine ⟨_, hg7, sz_lt (by unfold rf; rw [List.length_map]; omega), e7.mut hD2, gs ++ [t], ?_, by rw [List.length_append]; exact Nat.add_le_add_right gl 1, fun u hu => ?_⟩
              · unfold rf
                rw [List.map_append]
                exact upd_same
              · rcases List.mem_append.mp hu with y | y
                · exact gsub u y
                · rw [List.mem_singleton.mp y]
                  exact tm
      · obtain ⟨e7, gs, hg7, gl, gsub⟩ := hP
        walk_at "rd"
        have x7 : DX a H4 H7 := x6.then e7
        have g100 : gs.length ≤ 100 := Nat.le_trans gl (by unfold rf; rw [List.length_map]; exact fl)
        have taf7 := taf.ex e7
        have D2a := fresh_ne x6.at_ hD2
        refine ⟨a, D2, rf gs, rfl, x7.at_, wo_of hg7 D2a, by unfold rf; rw [List.length_map]; omega, fun FM' fr H8 pmf x8 hF8 hFn => ?_⟩
        obtain ⟨hs, rfl, pmh⟩ := OwP.perm_unmap (fun p : Addr × Str × Str => V.ref p.1) pmf gs rfl
        walk_at "rd"
        refine ⟨small64 (n := 0) (by decide), fun L0 hL0 _ => ?_⟩
        walk_at "rd"
        have x9 : DX a H4 (upd H8 L0 (.lst [])) := (x7.trans x8).then (Ex.new hL0)
        have y9 : DX a H6 (upd H8 L0 (.lst [])) := ((DX.of e7 x6.at_).trans x8).then (Ex.new hL0)
        have l9 : wo a (upd H8 L0 (.lst [])) L0 = some (.lst []) := wo_of upd_same (fresh_ne x8.at_ hL0)
        have f9 := wo_ex (Ex.new (o := .lst []) hL0) _ _ hF8
        generalize upd H8 L0 (.lst []) = H9 at x9 y9 l9 f9 ⊢
        refine roll_dx x9.at_ (by omega) (by omega) fun r H10 r0 r1 x10 => ?_
        obtain ⟨rt, rfl⟩ := Int.eq_ofNat_of_zero_le r0
        walk_at "rd"
        refine ⟨_, rfl, ?_⟩
        refine ⟨FM', _, rfl, SqL.of (wo_in a _ _ _ (x10.ex _ _ f9)), fun S2 hS2 => ?_⟩
        have x11 : DX a H4 (upd H10 S2 (.lst (cutV (hs.map fun p => V.ref p.1) none (some (rt : Int))))) := (x9.trans x10).then (Ex.new hS2)
        have y11 : DX a H6 (upd H10 S2 (.lst (cutV (hs.map fun p => V.ref p.1) none (some (rt : Int))))) := (y9.trans x10).then (Ex.new hS2)
        have s11 : (upd H10 S2 (.lst (cutV (hs.map fun p => V.ref p.1) none (some (rt : Int))))) S2 = some (.lst (rf (hs.take rt))) := by
          rw [upd_same, cut_upto, ← List.map_take]
        have l11 := wo_ex (Ex.new (o := .lst (cutV (hs.map fun p => V.ref p.1) none (some (rt : Int)))) hS2) _ _ (x10.ex _ _ l9)
        generalize upd H10 S2 (.lst (cutV (hs.map fun p => V.ref p.1) none (some (rt : Int)))) = H11 at x11 y11 s11 l11 ⊢
        have z11 := wo_in a _ _ _ (y11.ex _ _ z6)
        have tl : (hs.take rt).length ≤ 9 := by rw [List.length_take]; omega
        refine ⟨D, S2, rf zs, rf (hs.take rt), rfl, rfl, z11, s11, small64 (n := _) (by unfold rf; rw [List.length_map, List.length_map]; omega), fun C hC => ?_⟩
        have x12 : DX a H4 (upd H11 C (.lst (rf zs ++ rf (hs.take rt)))) := x11.then (Ex.new hC)
        have y12 : DX a H6 (upd H11 C (.lst (rf zs ++ rf (hs.take rt)))) := y11.then (Ex.new hC)
        have c12 : (upd H11 C (.lst (rf zs ++ rf (hs.take rt)))) C = some (.lst (rf (zs ++ hs.take rt))) := by
          rw [upd_same]
          unfold rf
          rw [List.map_append]
        have l12 := wo_in a _ _ _ (wo_ex (Ex.new (o := .lst (rf zs ++ rf (hs.take rt))) hC) _ _ l11)
        generalize upd H11 C (.lst (rf zs ++ rf (hs.take rt))) = H12 at x12 y12 c12 l12 ⊢
        walk_at "rd"
        have taf6 : TA (wo a H6) fs := fun t ht => wo_of (taf t ht) fun e => by
          obtain ⟨l, s', n, _, q⟩ := x6.at_
          have z := taf t ht
          rw [e, q] at z
          cases z
        have hsf : ∀ t ∈ hs.take rt, t ∈ fs := fun t ht => gsub t (pmh.mem_iff.mp (List.mem_of_mem_take ht))
        have ta12 : TA H12 (zs ++ hs.take rt) := fun t ht => by
          rcases List.mem_append.mp ht with y | y
          · exact wo_in a _ _ _ (y12.ex _ _ (taz6 t y))
          · exact wo_in a _ _ _ (y12.ex _ _ (taf6 t (hsf t y)))
        have len : (zs ++ hs.take rt).length ≤ 18 := by rw [List.length_append]; omega
        refine ⟨L0, C, zs ++ hs.take rt, rfl, l12, c12, ta12, by omega, fun d H13 ks zz e13 pl asc km tasc tmm hdn => ?_⟩
        have TT : Tree ws ((zs ++ hs.take rt).map (·.2)) := fun i' a' h1 ha' => by
          have il := (List.getElem?_eq_some_iff.mp ha').1
          obtain ⟨t, ht⟩ : ∃ t, zs[i' - 1]? = some t := ⟨_, List.getElem?_eq_getElem (by omega)⟩
          obtain ⟨q', b, c, hq', hb, hc, e⟩ := tree (i' - 1) t ht
          have ei : i' - 1 + 1 = i' := by omega
          rw [ei] at hb hq'
          rw [ha'] at hb
          cases hb
          exact ⟨q', c, hq', hc, by rw [← e]; exact List.mem_map.mpr ⟨t, List.mem_append_left _ (List.mem_of_getElem? ht), rfl⟩⟩
        have MM : ∀ t ∈ (zs ++ hs.take rt).map (·.2), Made ws t := fun t ht => by
          obtain ⟨u, hu, rfl⟩ := List.mem_map.mp ht
          rcases List.mem_append.mp hu with y | y
          · obtain ⟨j, hj⟩ := List.getElem?_of_mem y
            obtain ⟨q', b, c, hq', hb, hc, e⟩ := tree j u hj
            exact ⟨b, c, List.mem_of_getElem? hb, List.mem_of_getElem? hc, fun e' => by
              have z := (List.getElem?_inj (List.getElem?_eq_some_iff.mp hb).1 wnd).mp (hb.trans (by rw [hc, e']))
              omega, e⟩
          · obtain ⟨b, c, hb, hc, n, e⟩ := mf u.2 (List.mem_map.mpr ⟨u, hsf u y, rfl⟩)
            exact ⟨b, c, pms.mem_iff.mp hb, pms.mem_iff.mp hc, n, e⟩
        obtain ⟨W, Wk⟩ := web_of wnd w2 w9 wok TT MM (by rw [List.length_map]; exact len) asc km tasc tmm
        refine k d H13 ks zz (x4.trans (x12.then e13)) (plain_wo (x12.then e13).at_ pl) W (fun k hk => win k ((Wk k).mp hk)) (Nat.le_trans (nodup_leG ks ws (W.asc.imp fun {a b} l e => by rw [e, lt_irr] at l; exact nomatch l) fun k hk => (Wk k).mp hk) wm) (dx_none (x4.trans x12) hdn)
end
end OwW

namespace OwG
variable {α : Type} [DecidableEq α]
def Adj (ts : List (α × α)) (a b : α) : Prop := (a, b) ∈ ts ∨ (b, a) ∈ ts
theorem Adj.symm {ts : List (α × α)} {a b : α} (h : Adj ts a b) : Adj ts b a := h.elim Or.inr Or.inl
theorem Adj.mono {ts us : List (α × α)} (s : ∀ t ∈ ts, t ∈ us) {a b : α} (h : Adj ts a b) : Adj us a b := h.elim (fun z => Or.inl (s _ z)) (fun z => Or.inr (s _ z))
/-- joined along ties -/
inductive Con (ts : List (α × α)) (x : α) : α → Prop
  | here : Con ts x x
  | on {a b : α} : Con ts x a → Adj ts a b → Con ts x b
theorem Con.trans {ts : List (α × α)} {x y z : α} (h : Con ts x y) (g : Con ts y z) : Con ts x z := by
  induction g with
  | here => exact h
  | on _ e ih => exact .on ih e
theorem Con.one {ts : List (α × α)} {x y : α} (h : Adj ts x y) : Con ts x y := .on .here h
theorem Con.symm {ts : List (α × α)} {x y : α} (h : Con ts x y) : Con ts y x := by
  induction h with
  | here => exact .here
  | on _ e ih => exact (Con.one e.symm).trans ih
theorem Con.mono {ts us : List (α × α)} (s : ∀ t ∈ ts, t ∈ us) {x y : α} (h : Con ts x y) : Con us x y := by
  induction h with
  | here => exact .here
  | on _ e ih => exact .on ih (e.mono s)
theorem Con.iff {ts us : List (α × α)} (s : ∀ t, t ∈ ts ↔ t ∈ us) {x y : α} : Con ts x y ↔ Con us x y := ⟨Con.mono fun t h => (s t).mp h, Con.mono fun t h => (s t).mpr h⟩
theorem con_add {ts : List (α × α)} {a b x y : α} : Con ((a, b) :: ts) x y ↔ Con ts x y ∨ (Con ts x a ∧ Con ts b y) ∨ (Con ts x b ∧ Con ts a y) := by
  constructor
  · intro h
    induction h with
    | here => exact Or.inl .here
    | on _ e ih =>
      rcases e with e | e
      · rcases List.mem_cons.mp e with e | e
        · cases e
          rcases ih with h | ⟨h, _⟩ | ⟨h, _⟩
          · exact Or.inr (Or.inl ⟨h, .here⟩)
          · exact Or.inr (Or.inl ⟨h, .here⟩)
          · exact Or.inl h
        · have z : ∀ w, Con ts w _ → Con ts w _ := fun w hw => hw.on (Or.inl e)
          rcases ih with h | ⟨h, g⟩ | ⟨h, g⟩
          · exact Or.inl (z _ h)
          · exact Or.inr (Or.inl ⟨h, z _ g⟩)
          · exact Or.inr (Or.inr ⟨h, z _ g⟩)
      · rcases List.mem_cons.mp e with e | e
        · cases e
          rcases ih with h | ⟨h, _⟩ | ⟨h, _⟩
          · exact Or.inr (Or.inr ⟨h, .here⟩)
          · exact Or.inl h
          · exact Or.inr (Or.inr ⟨h, .here⟩)
        · have z : ∀ w, Con ts w _ → Con ts w _ := fun w hw => hw.on (Or.inr e)
          rcases ih with h | ⟨h, g⟩ | ⟨h, g⟩
          · exact Or.inl (z _ h)
          · exact Or.inr (Or.inl ⟨h, z _ g⟩)
          · exact Or.inr (Or.inr ⟨h, z _ g⟩)
  · have s : ∀ t ∈ ts, t ∈ (a, b) :: ts := fun t h => List.mem_cons_of_mem _ h
    have e : Con ((a, b) :: ts) a b := .one (Or.inl List.mem_cons_self)
    rintro (h | ⟨h, g⟩ | ⟨h, g⟩)
    · exact h.mono s
    · exact ((h.mono s).trans e).trans (g.mono s)
    · exact ((h.mono s).trans e.symm).trans (g.mono s)
/-- no tie closes a ring with the later ones -/
inductive Fst : List (α × α) → Prop
  | nil : Fst []
  | cons {a b : α} {ts : List (α × α)} : Fst ts → ¬ Con ts a b → Fst ((a, b) :: ts)
structure Rep (ks : List α) (ts : List (α × α)) (f : α → α) : Prop where
  in_ : ∀ x ∈ ks, f x ∈ ks
  con : ∀ x ∈ ks, ∀ y ∈ ks, (Con ts x y ↔ f x = f y)
  idem : ∀ x ∈ ks, f (f x) = f x
theorem con_nil {x y : α} (h : Con ([] : List (α × α)) x y) : x = y := by
  induction h with
  | here => rfl
  | on _ e ih => exact e.elim (fun z => nomatch z) (fun z => nomatch z)
theorem len_strike {ks : List α} (nd : ks.Nodup) (p : α → Bool) {r : α} (hr : r ∈ ks) (pr : p r = true) :
    (ks.filter fun x => p x && !decide (x = r)).length + 1 = (ks.filter p).length := by
  induction ks with
  | nil => exact nomatch hr
  | cons k ks ih =>
    obtain ⟨n1, n2⟩ := List.nodup_cons.mp nd
    by_cases c : k = r
    · subst c
      rw [List.filter_cons_of_neg (by simp), List.filter_cons_of_pos pr]
      have e : (ks.filter fun x => p x && !decide (x = k)) = ks.filter p := List.filter_congr fun x hx => by
        have z : x ≠ k := fun e => n1 (e ▸ hx)
        simp [z]
      rw [e]
      rfl
    · have ih' := ih n2 ((List.mem_cons.mp hr).resolve_left fun e => c e.symm)
      cases hp : p k with
      | true =>
        rw [List.filter_cons_of_pos (by simp [hp, c]), List.filter_cons_of_pos hp, List.length_cons, List.length_cons, ih']
      | false =>
        rw [List.filter_cons_of_neg (by simp [hp]), List.filter_cons_of_neg (by simp [hp]), ih']
theorem rep_ex {ks : List α} (nd : ks.Nodup) : ∀ {ts : List (α × α)}, (∀ t ∈ ts, t.1 ∈ ks ∧ t.2 ∈ ks) →
    ∃ f, Rep ks ts f ∧ ks.length ≤ (ks.filter fun x => decide (f x = x)).length + ts.length ∧ (Fst ts → ks.length = (ks.filter fun x => decide (f x = x)).length + ts.length)
  | [], _ => by
    have e : (ks.filter fun x => decide ((id : α → α) x = x)) = ks := List.filter_eq_self.mpr fun _ _ => decide_eq_true rfl
    refine ⟨id, ⟨fun _ h => h, fun x _ y _ => ⟨fun h => con_nil h, fun (h : x = y) => h ▸ .here⟩, fun _ _ => rfl⟩, ?_, fun _ => ?_⟩
    · rw [e]; exact Nat.le_refl _
    · rw [e]; rfl
  | (a, b) :: ts, h => by
    obtain ⟨f, R, l, q⟩ := rep_ex nd (ts := ts) fun t ht => h t (List.mem_cons_of_mem _ ht)
    obtain ⟨ha, hb⟩ : a ∈ ks ∧ b ∈ ks := h (a, b) List.mem_cons_self
    by_cases c : Con ts a b
    · refine ⟨f, ⟨R.in_, fun x hx y hy => ?_, R.idem⟩, by rw [List.length_cons]; omega, fun hf => ?_⟩
      · rw [← R.con x hx y hy, con_add]
        exact ⟨fun z => z.elim id fun z => z.elim (fun z => (z.1.trans c).trans z.2) (fun z => (z.1.trans c.symm).trans z.2), Or.inl⟩
      · cases hf with
        | cons _ n => exact absurd c n
    · have n : f a ≠ f b := fun e => c ((R.con a ha b hb).mpr e)
      let g : α → α := fun x => if f x = f b then f a else f x
      have G : Rep ks ((a, b) :: ts) g := by
        refine ⟨fun x hx => ?_, fun x hx y hy => ?_, fun x hx => ?_⟩
        · show (if f x = f b then f a else f x) ∈ ks
          split
          · exact R.in_ a ha
          · exact R.in_ x hx
        · rw [con_add, R.con x hx y hy, R.con x hx a ha, R.con b hb y hy, R.con x hx b hb, R.con a ha y hy]
          show _ ↔ (if f x = f b then f a else f x) = (if f y = f b then f a else f y)
          by_cases c1 : f x = f b <;> by_cases c2 : f y = f b
          · rw [if_pos c1, if_pos c2]; exact ⟨fun _ => rfl, fun _ => Or.inl (c1.trans c2.symm)⟩
          · rw [if_pos c1, if_neg c2]
            constructor
            · rintro (z | ⟨_, z⟩ | ⟨_, z⟩)
              · exact absurd (z.symm.trans c1) c2
              · exact absurd z.symm c2
              · exact z
            · exact fun z => Or.inr (Or.inr ⟨c1, z⟩)
          · rw [if_neg c1, if_pos c2]
            constructor
            · rintro (z | ⟨z, _⟩ | ⟨z, _⟩)
              · exact absurd (z.trans c2) c1
              · exact z
              · exact absurd z c1
            · exact fun z => Or.inr (Or.inl ⟨z, c2.symm⟩)
          · rw [if_neg c1, if_neg c2]
            constructor
            · rintro (z | ⟨_, z⟩ | ⟨z, _⟩)
              · exact z
              · exact absurd z.symm c2
              · exact absurd z c1
            · exact Or.inl
        · show (if f (if f x = f b then f a else f x) = f b then f a else f (if f x = f b then f a else f x)) = if f x = f b then f a else f x
          by_cases c1 : f x = f b
          · rw [if_pos c1, R.idem a ha, if_neg n]
          · rw [if_neg c1, R.idem x hx, if_neg c1]
      have e : (ks.filter fun x => decide (g x = x)) = ks.filter fun x => decide (f x = x) && !decide (x = f b) := List.filter_congr fun x hx => by
        show decide ((if f x = f b then f a else f x) = x) = _
        by_cases c1 : f x = f b
        · rw [if_pos c1]
          by_cases c2 : f x = x
          · have c3 : x = f b := c2.symm.trans c1
            have c4 : ¬ f a = x := fun z => n (z.trans c3)
            simp [c3, c4, n]
          · have c4 : ¬ f a = x := fun z => by
              have w := R.idem a ha
              rw [z] at w
              exact c2 w
            simp [c2, c4]
        · rw [if_neg c1]
          by_cases c2 : f x = x
          · have c3 : ¬ x = f b := fun z => c1 (c2.trans z)
            simp [c2, c3]
          · simp [c2]
      have s := len_strike nd (fun x => decide (f x = x)) (R.in_ b hb) (decide_eq_true (R.idem b hb))
      refine ⟨g, G, ?_, fun hf => ?_⟩
      · rw [e, List.length_cons]
        omega
      · cases hf with
        | cons hf _ =>
          have z := q hf
          rw [e, List.length_cons]
          omega
theorem one_len {l : List α} (nd : l.Nodup) {r : α} (hr : r ∈ l) (h : ∀ x ∈ l, x = r) : l.length = 1 := by
  cases l with
  | nil => exact nomatch hr
  | cons a l =>
    cases l with
    | nil => rfl
    | cons b l =>
      have e := (h a List.mem_cons_self).trans (h b (List.mem_cons_of_mem _ List.mem_cons_self)).symm
      exact absurd (e ▸ List.mem_cons_self) (List.nodup_cons.mp nd).1
/-- all of ks joined along ts, which stay in ks -/
structure Joins (ks : List α) (ts : List (α × α)) : Prop where
  sub : ∀ t ∈ ts, t.1 ∈ ks ∧ t.2 ∈ ks
  con : ∀ x ∈ ks, ∀ y ∈ ks, Con ts x y
theorem joins_cnt {ks : List α} (nd : ks.Nodup) (ne : ks ≠ []) {ts : List (α × α)} (J : Joins ks ts) : ks.length ≤ ts.length + 1 ∧ (Fst ts → ks.length = ts.length + 1) := by
  obtain ⟨f, R, l, q⟩ := rep_ex nd J.sub
  obtain ⟨k, hk⟩ : ∃ k, k ∈ ks := List.exists_mem_of_ne_nil ks ne
  have o : (ks.filter fun x => decide (f x = x)).length = 1 := one_len (nd.filter _) (r := f k) (List.mem_filter.mpr ⟨R.in_ k hk, decide_eq_true (R.idem k hk)⟩) fun x hx => by
    obtain ⟨h1, h2⟩ := List.mem_filter.mp hx
    rw [← of_decide_eq_true h2]
    exact (R.con x h1 k hk).mp (J.con x h1 k hk)
  rw [o] at l q
  exact ⟨by omega, fun h => by have := q h; omega⟩
theorem nd_le : ∀ {l m : List α}, l.Nodup → (∀ x ∈ l, x ∈ m) → l.length ≤ m.length
  | [], _, _, _ => Nat.zero_le _
  | r :: l, m, nd, h => by
    obtain ⟨n1, n2⟩ := List.nodup_cons.mp nd
    have hr := h r List.mem_cons_self
    have ih := nd_le (l := l) (m := m.erase r) n2 fun s hs => (List.mem_erase_of_ne fun e => n1 (by rw [← e]; exact hs)).mpr (h s (List.mem_cons_of_mem _ hs))
    rw [List.length_erase_of_mem hr] at ih
    have z := List.length_pos_of_mem hr
    show l.length + 1 ≤ _
    omega
/-- what hangs together along n ties is at most n + 1 -/
theorem comp_le {ks : List α} (nd : ks.Nodup) {ts : List (α × α)} (sub : ∀ t ∈ ts, t.1 ∈ ks ∧ t.2 ∈ ks) {x : α} (hx : x ∈ ks) {lot : List α} (ln : lot.Nodup) (ls : ∀ y ∈ lot, y ∈ ks) (lc : ∀ y ∈ lot, Con ts x y) : lot.length ≤ ts.length + 1 := by
  obtain ⟨f, R, l, _⟩ := rep_ex nd sub
  have s := len_strike nd (fun y => decide (f y = y)) (R.in_ x hx) (decide_eq_true (R.idem x hx))
  have z : (lot ++ ks.filter fun y => decide (f y = y) && !decide (y = f x)).length ≤ ks.length := by
    refine nd_le (List.nodup_append.mpr ⟨ln, nd.filter _, fun a ha b hb e => ?_⟩) fun y hy => (List.mem_append.mp hy).elim (ls y) fun h => (List.mem_filter.mp h).1
    subst e
    obtain ⟨h1, h2⟩ := List.mem_filter.mp hb
    rw [Bool.and_eq_true] at h2
    have e1 := of_decide_eq_true h2.1
    have e2 := (R.con x hx a h1).mp (lc a ha)
    have e3 : a = f x := (e2.trans e1).symm
    simp [e3] at h2
  rw [List.length_append] at z
  omega
theorem comp_full {ks : List α} (nd : ks.Nodup) {ts : List (α × α)} (sub : ∀ t ∈ ts, t.1 ∈ ks ∧ t.2 ∈ ks) {x : α} (hx : x ∈ ks) {lot : List α} (ln : lot.Nodup) (ls : ∀ y ∈ lot, y ∈ ks) (lc : ∀ y ∈ lot, Con ts x y) (h : ts.length + 1 ≤ lot.length) {y : α} (hy : y ∈ ks) (c : Con ts x y) : y ∈ lot := by
  apply Classical.byContradiction
  intro n
  have z := comp_le nd sub hx (lot := y :: lot) (List.nodup_cons.mpr ⟨n, ln⟩) (fun a ha => (List.mem_cons.mp ha).elim (fun e => e ▸ hy) (ls a)) (fun a ha => (List.mem_cons.mp ha).elim (fun e => e ▸ c) (lc a))
  rw [List.length_cons] at z
  omega
/-- a joining tree -/
structure TreeOk (ks : List α) (tr : List (α × α)) : Prop extends Joins ks tr where
  nd : tr.Nodup
  lp : ∀ t ∈ tr, t.1 ≠ t.2
  len : ks.length = tr.length + 1
def but (tr : List (α × α)) (o : α × α) : List (α × α) := tr.filter fun t => !decide (t = o)
theorem mem_but {tr : List (α × α)} {o t : α × α} : t ∈ but tr o ↔ t ∈ tr ∧ t ≠ o := by
  unfold but
  rw [List.mem_filter]
  simp
theorem but_len {tr : List (α × α)} (nd : tr.Nodup) {o : α × α} (h : o ∈ tr) : (but tr o).length + 1 = tr.length := by
  have z := len_strike nd (fun _ => true) h rfl
  rw [List.filter_eq_self.mpr fun _ _ => rfl] at z
  simpa [but] using z
theorem but_con {tr : List (α × α)} {u v : α} (h : (u, v) ∈ tr) {x y : α} : Con tr x y ↔ Con (but tr (u, v)) x y ∨ (Con (but tr (u, v)) x u ∧ Con (but tr (u, v)) v y) ∨ (Con (but tr (u, v)) x v ∧ Con (but tr (u, v)) u y) := by
  rw [← con_add]
  refine Con.iff fun t => ?_
  rw [List.mem_cons, mem_but]
  constructor
  · intro z
    by_cases c : t = (u, v)
    · exact Or.inl c
    · exact Or.inr ⟨z, c⟩
  · rintro (z | z)
    · rw [z]; exact h
    · exact z.1
theorem TreeOk.cut {ks : List α} (nd : ks.Nodup) {tr : List (α × α)} (T : TreeOk ks tr) {u v : α} (h : (u, v) ∈ tr) : ¬ Con (but tr (u, v)) u v := fun c => by
  have ne : ks ≠ [] := fun e => by rw [e] at T; exact nomatch (T.sub _ h).1
  have J : Joins ks (but tr (u, v)) := ⟨fun t ht => T.sub t (mem_but.mp ht).1, fun x hx y hy => by
    rcases (but_con h).mp (T.con x hx y hy) with z | ⟨z, w⟩ | ⟨z, w⟩
    · exact z
    · exact (z.trans c).trans w
    · exact (z.trans c.symm).trans w⟩
  have a := (joins_cnt nd ne J).1
  have b := but_len T.nd h
  have d := T.len
  omega
/-- two classes -/
theorem TreeOk.two {ks : List α} {tr : List (α × α)} (T : TreeOk ks tr) {u v : α} (h : (u, v) ∈ tr) {x : α} (hx : x ∈ ks) : Con (but tr (u, v)) u x ∨ Con (but tr (u, v)) v x := by
  rcases (but_con h).mp (T.con u (T.sub _ h).1 x hx) with z | ⟨_, w⟩ | ⟨_, w⟩
  · exact Or.inl z
  · exact Or.inr w
  · exact Or.inl w
/-- the ties clear of p -/
def off (tr : List (α × α)) (p : α) : List (α × α) := tr.filter fun t => !decide (t.1 = p) && !decide (t.2 = p)
theorem mem_off {tr : List (α × α)} {p : α} {t : α × α} : t ∈ off tr p ↔ t ∈ tr ∧ t.1 ≠ p ∧ t.2 ≠ p := by
  unfold off
  rw [List.mem_filter]
  simp
/-- q is the next place on the way from p home -/
structure Par (tr : List (α × α)) (home p q : α) : Prop where
  ne : p ≠ home
  adj : Adj tr p q
  con : Con (off tr p) q home
theorem off_but {tr : List (α × α)} {p : α} {t : α × α} (h : t.1 = p ∨ t.2 = p) : ∀ s ∈ off tr p, s ∈ but tr t := fun s hs => by
  obtain ⟨a, b, c⟩ := mem_off.mp hs
  exact mem_but.mpr ⟨a, fun e => by rw [e] at b c; exact h.elim b c⟩
/-- a tie of the tree, either way round, and what is left without it -/
theorem TreeOk.cut' {ks : List α} (nd : ks.Nodup) {tr : List (α × α)} (T : TreeOk ks tr) {p q : α} (h : Adj tr p q) : ∃ o ∈ tr, (o = (p, q) ∨ o = (q, p)) ∧ ¬ Con (but tr o) p q := by
  rcases h with h | h
  · exact ⟨_, h, Or.inl rfl, T.cut nd h⟩
  · exact ⟨_, h, Or.inr rfl, fun z => T.cut nd h z.symm⟩
theorem Par.uniq {ks : List α} (nd : ks.Nodup) {tr : List (α × α)} (T : TreeOk ks tr) {home p q r : α} (a : Par tr home p q) (b : Par tr home p r) : q = r := by
  apply Classical.byContradiction
  intro n
  obtain ⟨o, ho, eo, nc⟩ := T.cut' nd a.adj
  have ed : o.1 = p ∨ o.2 = p := by rcases eo with rfl | rfl <;> simp
  have m := fun {x y : α} (c : Con (off tr p) x y) => c.mono (off_but (t := o) ed)
  have hn : ∀ t : α × α, (t = (p, r) ∨ t = (r, p)) → t ≠ o := fun t ht e => by
    rcases ht with rfl | rfl <;> rcases eo with z | z <;> rw [← e] at z <;> simp at z
    · exact n z.symm
    · exact n (z.1 ▸ z.2).symm
    · exact n (z.2 ▸ z.1).symm
    · exact n z.symm
  have pr : Con (but tr o) p r := .one (b.adj.elim (fun z => Or.inl (mem_but.mpr ⟨z, hn _ (Or.inl rfl)⟩)) (fun z => Or.inr (mem_but.mpr ⟨z, hn _ (Or.inr rfl)⟩)))
  exact nc ((pr.trans (m b.con)).trans (m a.con).symm)
/-- next places with a rank that falls -/
structure Hands (ks : List α) (tr : List (α × α)) (home : α) (hp : α → α) (rk : α → Nat) : Prop where
  par : ∀ p ∈ ks, p ≠ home → Par tr home p (hp p)
  dn : ∀ p ∈ ks, p ≠ home → rk (hp p) < rk p
  few : ∀ p ∈ ks, rk p < ks.length
inductive Way (tr : List (α × α)) (home : α) : α → List α → Prop
  | home : Way tr home home [home]
  | on {p q : α} {w : List α} : Par tr home p q → Way tr home q w → Way tr home p (p :: w)
theorem Way.uniq {ks : List α} (nd : ks.Nodup) {tr : List (α × α)} (T : TreeOk ks tr) {home p : α} {w w' : List α} (a : Way tr home p w) (b : Way tr home p w') : w = w' := by
  induction a generalizing w' with
  | home =>
    cases b with
    | home => rfl
    | on h _ => exact absurd rfl h.ne
  | on h _ ih =>
    cases b with
    | home => exact absurd rfl h.ne
    | on g b =>
      cases h.uniq nd T g
      rw [ih b]
theorem Adj.in_ {ks : List α} {tr : List (α × α)} (h : ∀ t ∈ tr, t.1 ∈ ks ∧ t.2 ∈ ks) {p q : α} (a : Adj tr p q) : p ∈ ks ∧ q ∈ ks := a.elim (fun z => h _ z) (fun z => (h _ z).symm)
theorem Way.ranks {ks : List α} (nd : ks.Nodup) {tr : List (α × α)} (T : TreeOk ks tr) {home : α} {hp : α → α} {rk : α → Nat} (G : Hands ks tr home hp rk) {p : α} {w : List α} (a : Way tr home p w) : (∀ x ∈ w, rk x ≤ rk p) ∧ w.Nodup := by
  induction a with
  | home => exact ⟨fun x hx => by rw [List.mem_singleton.mp hx]; exact Nat.le_refl _, by simp⟩
  | on h b ih =>
    have hk := (h.adj.in_ T.sub).1
    have e := h.uniq nd T (G.par _ hk h.ne)
    have d := G.dn _ hk h.ne
    rw [← e] at d
    refine ⟨fun x hx => ?_, List.nodup_cons.mpr ⟨fun z => ?_, ih.2⟩⟩
    · rcases List.mem_cons.mp hx with rfl | hx
      · exact Nat.le_refl _
      · exact Nat.le_of_lt (Nat.lt_of_le_of_lt (ih.1 x hx) d)
    · have := ih.1 _ z
      omega
theorem Way.in_ {ks : List α} {tr : List (α × α)} (h : ∀ t ∈ tr, t.1 ∈ ks ∧ t.2 ∈ ks) {home p : α} {w : List α} (a : Way tr home p w) (hk : home ∈ ks) : ∀ x ∈ w, x ∈ ks := by
  induction a with
  | home => exact fun x hx => by rw [List.mem_singleton.mp hx]; exact hk
  | on g _ ih => exact fun x hx => (List.mem_cons.mp hx).elim (fun e => e ▸ (g.adj.in_ h).1) (ih x)
theorem Way.hd {tr : List (α × α)} {home p : α} {w : List α} (a : Way tr home p w) : ∃ w', w = p :: w' := by
  cases a with
  | home => exact ⟨_, rfl⟩
  | on _ _ => exact ⟨_, rfl⟩
theorem way_ex {ks : List α} {tr : List (α × α)} {home : α} {hp : α → α} {rk : α → Nat} (sub : ∀ t ∈ tr, t.1 ∈ ks ∧ t.2 ∈ ks) (G : Hands ks tr home hp rk) : ∀ (n : Nat) (p : α), p ∈ ks → rk p < n → ∃ w, Way tr home p w ∧ w.length ≤ n
  | 0, _, _, h => absurd h (Nat.not_lt_zero _)
  | n + 1, p, hk, h => by
    by_cases c : p = home
    · subst c
      exact ⟨_, .home, by simp⟩
    · have g := G.par p hk c
      obtain ⟨w, a, l⟩ := way_ex sub G n (hp p) (g.adj.in_ sub).2 (by have := G.dn p hk c; omega)
      exact ⟨_, .on g a, by simpa using l⟩
/-- a way that lacks an end of a tie does without it -/
theorem Way.keep {tr : List (α × α)} {u v home p : α} {w : List α} (a : Way tr home p w) (h : ¬ (u ∈ w ∧ v ∈ w)) : Con (but tr (u, v)) p home := by
  induction a with
  | home => exact .here
  | @on p q w g b ih =>
    have s := ih fun z => h ⟨List.mem_cons_of_mem _ z.1, List.mem_cons_of_mem _ z.2⟩
    obtain ⟨w', rfl⟩ := b.hd
    refine (Con.one ?_).trans s
    rcases g.adj with z | z
    · refine Or.inl (mem_but.mpr ⟨z, fun e => ?_⟩)
      cases e
      exact h ⟨List.mem_cons_self, List.mem_cons_of_mem _ List.mem_cons_self⟩
    · refine Or.inr (mem_but.mpr ⟨z, fun e => ?_⟩)
      cases e
      exact h ⟨List.mem_cons_of_mem _ List.mem_cons_self, List.mem_cons_self⟩
theorem Way.uses {ks : List α} (nd : ks.Nodup) {tr : List (α × α)} (T : TreeOk ks tr) {home : α} {hp : α → α} {rk : α → Nat} (G : Hands ks tr home hp rk) {o : α × α} (ho : o ∈ tr) {x y : α} (eo : o = (x, y) ∨ o = (y, x)) (pa : Par tr home x y) {p : α} {w : List α} (a : Way tr home p w) (hx : x ∈ w) : ¬ Con (but tr o) p home := by
  have nc : ¬ Con (but tr o) x y := by
    rcases eo with rfl | rfl
    · exact T.cut nd ho
    · exact fun z => T.cut nd ho z.symm
  have yh : Con (but tr o) y home := pa.con.mono (off_but (by rcases eo with rfl | rfl <;> simp))
  induction a with
  | home =>
    exact absurd (List.mem_singleton.mp hx) pa.ne
  | @on p q w g b ih =>
    by_cases c : p = x
    · subst c
      exact fun z => nc (z.trans yh.symm)
    · have hx' : x ∈ w := (List.mem_cons.mp hx).resolve_left fun e => c e.symm
      have i := ih hx'
      have nq : ∀ t : α × α, (t = (p, q) ∨ t = (q, p)) → t ≠ o := fun t ht e => by
        have k : p = y ∧ q = x := by
          rcases ht with rfl | rfl <;> rcases eo with z | z <;> rw [← e] at z <;> simp at z
          · exact absurd z.1 c
          · exact z
          · exact ⟨z.2, z.1⟩
          · exact absurd z.2 c
        obtain ⟨rfl, rfl⟩ := k
        have k1 := (g.adj.in_ T.sub)
        have e1 := g.uniq nd T (G.par _ k1.1 g.ne)
        have e2 := pa.uniq nd T (G.par _ k1.2 pa.ne)
        have d1 := G.dn _ k1.1 g.ne
        have d2 := G.dn _ k1.2 pa.ne
        rw [← e1] at d1
        rw [← e2] at d2
        omega
      have pq : Con (but tr o) p q := .one (g.adj.elim (fun z => Or.inl (mem_but.mpr ⟨z, nq _ (Or.inl rfl)⟩)) (fun z => Or.inr (mem_but.mpr ⟨z, nq _ (Or.inr rfl)⟩)))
      exact fun z => i (pq.symm.trans z)
/-- a tie of the tree leads home from one of its ends -/
theorem TreeOk.side {ks : List α} (nd : ks.Nodup) {tr : List (α × α)} (T : TreeOk ks tr) {home : α} {hp : α → α} {rk : α → Nat} (G : Hands ks tr home hp rk) {u v : α} (ho : (u, v) ∈ tr) : Par tr home u v ∨ Par tr home v u := by
  have nc := T.cut nd ho
  obtain ⟨ku, kv⟩ := T.sub _ ho
  have half : ∀ x y : α, ((u, v) = (x, y) ∨ (u, v) = (y, x)) → x ∈ ks → ¬ Par tr home x y → Con (but tr (u, v)) x home := fun x y e kx n => by
    by_cases c : x = home
    · subst c
      exact .here
    · have g := G.par x kx c
      have ny : hp x ≠ y := fun z => n (z ▸ g)
      have m := g.con.mono (off_but (t := (u, v)) (by rcases e with e | e <;> cases e <;> simp))
      refine (Con.one ?_).trans m
      rcases g.adj with z | z
      · refine Or.inl (mem_but.mpr ⟨z, fun w => ?_⟩)
        rw [← w] at e
        rcases e with e | e
        · exact ny (congrArg Prod.snd e)
        · have e1 : x = y := congrArg Prod.fst e
          have e2 : hp x = x := congrArg Prod.snd e
          exact ny (e2.trans e1)
      · refine Or.inr (mem_but.mpr ⟨z, fun w => ?_⟩)
        rw [← w] at e
        rcases e with e | e
        · have e1 : hp x = x := congrArg Prod.fst e
          have e2 : x = y := congrArg Prod.snd e
          exact ny (e1.trans e2)
        · exact ny (congrArg Prod.fst e)
  apply Classical.byContradiction
  intro n
  exact nc ((half u v (Or.inl rfl) ku fun z => n (Or.inl z)).trans (half v u (Or.inr rfl) kv fun z => n (Or.inr z)).symm)
theorem Way.both {ks : List α} (nd : ks.Nodup) {tr : List (α × α)} (T : TreeOk ks tr) {home : α} {hp : α → α} {rk : α → Nat} (G : Hands ks tr home hp rk) {u v : α} (ho : (u, v) ∈ tr) {p : α} {w : List α} (a : Way tr home p w) : (u ∈ w ∧ v ∈ w) ↔ ¬ Con (but tr (u, v)) p home := by
  constructor
  · intro h
    rcases T.side nd G ho with s | s
    · exact a.uses nd T G ho (Or.inl rfl) s h.1
    · exact a.uses nd T G ho (Or.inr rfl) s h.2
  · intro h
    apply Classical.byContradiction
    intro n
    exact h (a.keep n)
/-- what an exchange makes -/
theorem TreeOk.swap {ks : List α} (nd : ks.Nodup) {tr : List (α × α)} (T : TreeOk ks tr) {o : α × α} (ho : o ∈ tr) {n : α × α} (hn : n.1 ∈ ks ∧ n.2 ∈ ks) {du : List (α × α)} (pm : ∀ t, t ∈ du ↔ t ∈ but tr o ∨ t = n) :
    (∀ x ∈ ks, ∀ y ∈ ks, Con du x y) ↔ ¬ Con (but tr o) n.1 n.2 := by
  obtain ⟨u, v⟩ := o
  obtain ⟨a, b⟩ := n
  have e : ∀ {x y : α}, Con du x y ↔ Con ((a, b) :: but tr (u, v)) x y := Con.iff fun t => by rw [pm, List.mem_cons]; exact Or.comm
  obtain ⟨ku, kv⟩ := T.sub _ ho
  constructor
  · intro h c
    rcases con_add.mp (e.mp (h u ku v kv)) with z | ⟨z, w⟩ | ⟨z, w⟩
    · exact T.cut nd ho z
    · exact T.cut nd ho ((z.trans c).trans w)
    · exact T.cut nd ho ((z.trans c.symm).trans w)
  · intro c
    have m : ∀ {x y : α}, Con (but tr (u, v)) x y → Con ((a, b) :: but tr (u, v)) x y := fun z => con_add.mpr (Or.inl z)
    have ab : Con ((a, b) :: but tr (u, v)) a b := .one (Or.inl List.mem_cons_self)
    have uv : Con ((a, b) :: but tr (u, v)) u v := by
      rcases T.two ho hn.1 with p | p <;> rcases T.two ho hn.2 with q | q
      · exact absurd (p.symm.trans q) c
      · exact ((m p).trans ab).trans (m q).symm
      · exact ((m q).trans ab.symm).trans (m p).symm
      · exact absurd (p.symm.trans q) c
    intro x hx y hy
    refine e.mpr ?_
    have g : ∀ z ∈ ks, Con ((a, b) :: but tr (u, v)) u z := fun z hz => (T.two ho hz).elim m fun q => uv.trans (m q)
    exact (g x hx).symm.trans (g y hy)
end OwG

/-! sorted(xs) of a list of tuples of texts, of any lengths but none. -/
namespace OwP
open PySem PySem.Spec PyProof.Rows PySem.W L2
theorem alike_any : ∀ (xs ys : List Str), alikeAll (xs.map PyData.str) (ys.map PyData.str) = true
  | [], _ => rfl
  | _ :: _, [] => rfl
  | _ :: xs, _ :: ys => by
    show (true && alikeAll (xs.map PyData.str) (ys.map PyData.str)) = true
    rw [alike_any xs ys]
    rfl
theorem items_same' {xs : List (Addr × List Str)} : AllAlike (xs.map enc) := fun a ha b hb => by
  obtain ⟨p, hp, rfl⟩ := List.mem_map.mp ha
  obtain ⟨q, hq, rfl⟩ := List.mem_map.mp hb
  exact alike_any _ _
theorem items_sort' {xs : List (Addr × List Str)} (h1 : ∀ p ∈ xs, 1 ≤ p.2.length) : Sortable (xs.map enc) := Or.inl fun a ha => by
  obtain ⟨⟨q, ks⟩, hp, rfl⟩ := List.mem_map.mp ha
  have z : 1 ≤ ks.length := h1 _ hp
  cases ks with
  | nil => exact absurd z (by decide)
  | cons k r => exact ⟨_, _, rfl⟩
section
variable {X : Cx}
def rSortTpN (K : PySem.W.Frag) : List V → Hp → VK → Prop := fun vs H Q => ∃ (a : Addr) (xs : List (Addr × List Str)), vs = [.ref a] ∧ SqL K H a (xs.map fun p => V.ref p.1) ∧ Tups K H xs ∧ (∀ p ∈ xs, 1 ≤ p.2.length) ∧ xs.length ≤ 1000 ∧ ∀ p, H p = none → Q (.ref p) (upd H p (.lst ((xs.mergeSort le).map fun p => V.ref p.1)))
theorem cr_sortTpN (hu : X.A.units + 64 < cLine) : CallR X (.builtin "sorted") (rSortTpN X.K) := by
  intro pins s σ H vs us Q I r h
  obtain ⟨a, xs, rfl, hs, ht, h1, hz, q⟩ := h
  rw [Vals.ref1 r]
  obtain ⟨its, rv, hl, _⟩ := I.list hs
  have ei := vals_refs rv
  have er : EachIs (fun v b => ∃ as, Reads s.heap v (enc b) as) its xs := by
    rw [ei]
    exact each_all xs fun p hp => Dp.reads I _ (.ref p.1) (.ref p.1) (.tup (ht p hp) (dp_strs p.2)) rfl
  refine sorted_data (vs := its) (R := fun v p => v = .ref p.1) hl.isList (by rw [ei]; exact each_refs xs) er items_same' (items_sort' h1) (by rw [sizeLine_eq]; omega) (fun p _ => by
    have z := depth_strs p.2
    show X.A.units + 2 + (PyData.tuple (p.2.map PyData.str)).depth < cLine
    omega) fun out _ eo => ?_
  have eo2 := refs_each eo
  obtain ⟨ep, he⟩ := sortedAll_at s.heap its out.toArray
  have hlen : ((xs.mergeSort le).map fun p => V.ref p.1).length ≤ sizeLine := by rw [List.length_map, List.length_mergeSort, sizeLine_eq]; omega
  exact ⟨.ref _, upd H (s.heap.objs.size + 1) (.lst ((xs.mergeSort le).map fun p => V.ref p.1)), I.laid (t' := s.toks) (fun _ _ => sortedAll_old) (Nat.le_succ _) ⟨hlen, out, ep, by rw [eo2]; exact refs_vals _, he⟩, rfl, q _ (I.hok.fresh (Nat.le_succ _))⟩
end
end OwP

/-! min of a list, a tuple or two of data that can be compared. -/
namespace OwMn
open PySem PySem.Spec PyProof.Rows PySem.W L2
/-- v with data d is a least of xs with data ds -/
structure Least (xs : List V) (ds : List PyData) (v : V) (d : PyData) : Prop where
  at_ : ∃ i : Nat, xs[i]? = some v ∧ ds[i]? = some d
  min : ∀ r : PyData → PyData → Bool, (∀ x ∈ ds, ∀ y ∈ ds, dataLt x y = r x y) → (∀ x ∈ ds, ∀ y ∈ ds, r x y = true → r y x = false) → (∀ x ∈ ds, ∀ y ∈ ds, ∀ z ∈ ds, r y x = false → r z y = false → r z x = false) → ∀ y ∈ ds, r y d = false
theorem fold_in (x : PyData) : ∀ (xs : List PyData) , minD x xs ∈ x :: xs := by
  intro xs
  unfold minD
  induction xs generalizing x with
  | nil => exact List.mem_cons_self
  | cons y ys ih =>
    rw [List.foldl_cons]
    have z := ih (if dataLt y x = true then y else x)
    rcases List.mem_cons.mp z with z | z
    · rw [z]
      split
      · exact List.mem_cons_of_mem _ List.mem_cons_self
      · exact List.mem_cons_self
    · exact List.mem_cons_of_mem _ (List.mem_cons_of_mem _ z)
theorem fold_min {r : PyData → PyData → Bool} (S : PyData → Prop) (e : ∀ x, S x → ∀ y, S y → dataLt x y = r x y) (as : ∀ x, S x → ∀ y, S y → r x y = true → r y x = false) (tr : ∀ x, S x → ∀ y, S y → ∀ z, S z → r y x = false → r z y = false → r z x = false) :
    ∀ (xs : List PyData) (x : PyData), S x → (∀ y ∈ xs, S y) → r (minD x xs) (minD x xs) = false ∧ r x (minD x xs) = false ∧ ∀ y ∈ xs, r y (minD x xs) = false
  | [], x, sx, _ => by
    have h : r x x = false := by
      cases c : r x x with
      | false => rfl
      | true => exact absurd (as x sx x sx c) (by rw [c]; decide)
    exact ⟨h, h, fun _ z => nomatch z⟩
  | y :: ys, x, sx, h => by
    have sy := h y List.mem_cons_self
    have hs : ∀ z ∈ ys, S z := fun z hz => h z (List.mem_cons_of_mem _ hz)
    show r (minD (if dataLt y x = true then y else x) ys) (minD (if dataLt y x = true then y else x) ys) = false ∧ r x (minD (if dataLt y x = true then y else x) ys) = false ∧ ∀ z ∈ y :: ys, r z (minD (if dataLt y x = true then y else x) ys) = false
    have inS : ∀ a : PyData, S a → S (minD a ys) := fun a sa => (List.mem_cons.mp (fold_in a ys)).elim (fun z => by rw [z]; exact sa) (hs _)
    by_cases c : dataLt y x = true
    · rw [if_pos c]
      obtain ⟨p, q, t⟩ := fold_min S e as tr ys y sy hs
      rw [e y sy x sx] at c
      refine ⟨p, tr _ (inS y sy) y sy x sx q (as y sy x sx c), fun z hz => ?_⟩
      rcases List.mem_cons.mp hz with rfl | hz
      · exact q
      · exact t z hz
    · rw [if_neg c]
      obtain ⟨p, q, t⟩ := fold_min S e as tr ys x sx hs
      rw [e y sy x sx] at c
      refine ⟨p, q, fun z hz => ?_⟩
      rcases List.mem_cons.mp hz with rfl | hz
      · exact tr _ (inS x sx) x sx z sy q (Bool.eq_false_iff.mpr c)
      · exact t z hz
section
variable {X : Cx}
theorem vals_at {H : Hp} : ∀ {xs : List V} {us : List Value}, Vals xs us → ∀ {i : Nat} {u : Value}, us[i]? = some u → ∃ v, xs[i]? = some v ∧ RelV v u
  | _, _, .nil, i, u, h => by simp at h
  | _, _, .cons a r, 0, u, h => by
    cases (show some _ = some u from h)
    exact ⟨_, rfl, a⟩
  | _, _, .cons a r, i + 1, u, h => by
    obtain ⟨v, h1, h2⟩ := vals_at (H := H) r (i := i) (u := u) (by simpa using h)
    exact ⟨v, by simpa using h1, h2⟩
def rMinD (K : PySem.W.Frag) : List V → Hp → VK → Prop := fun vs H Q => ∃ (a : Addr) (xs : List V) (ds : List PyData), vs = [.ref a] ∧ (SqL K H a xs ∨ SqT K H a xs) ∧ DpAll K H xs ds ∧ ds ≠ [] ∧ AlikeAll ds ∧ PyData.depthAll ds ≤ 50 ∧ ∀ v d, Least xs ds v d → Q v H
theorem dp_len {K : PySem.W.Frag} {H : Hp} : ∀ {xs : List V} {ds : List PyData}, DpAll K H xs ds → xs.length = ds.length
  | _, _, .nil => rfl
  | _, _, .cons _ r => by rw [List.length_cons, List.length_cons, dp_len r]
theorem fold_at (x : PyData) (xs : List PyData) : ∃ i, i ≤ xs.length ∧ argBest (fun i j => dataLt ((x :: xs).getD i .none) ((x :: xs).getD j .none)) xs.length = i ∧ (x :: xs)[i]? = some (minD x xs) := by
  obtain ⟨a, b⟩ := argBest_fold dataLt PyData.none x xs xs.length (Nat.le_refl _)
  refine ⟨_, a, rfl, ?_⟩
  rw [List.take_length] at b
  rw [List.getD_eq_getElem?_getD] at b
  have l : argBest (fun i j => dataLt ((x :: xs).getD i .none) ((x :: xs).getD j .none)) xs.length < (x :: xs).length := Nat.lt_succ_of_le a
  rw [List.getElem?_eq_getElem l] at b ⊢
  exact congrArg some b
theorem cr_minD (hc : X.calm = true) (hu : X.A.units + 64 < cLine) : CallR X (.builtin "min") (rMinD X.K) := by
  intro pins s σ H vs us Q I r h
  obtain ⟨a, xs, ds, rfl, hs, hd, ne, al, dp, q⟩ := h
  rw [Vals.ref1 r]
  obtain ⟨x, ys, rfl⟩ : ∃ x ys, ds = x :: ys := by
    cases ds with
    | nil => exact absurd rfl ne
    | cons x ys => exact ⟨x, ys, rfl⟩
  have fin : ∀ (its : List Value), Vals xs its → ∀ (v : Value) (h' : Heap) (tk : Nat), its.toArray[argBest (fun i j => dataLt ((x :: ys).getD i .none) ((x :: ys).getD j .none)) (its.toArray.size - 1)]? = some v → (∀ b o, s.heap.get? b = some o → h'.get? b = some o) → ∃ z H', Inv X pins σ H' { s with heap := h', toks := tk } ∧ RelV z v ∧ Q z H' := fun its rv v h' tk hv k => by
    have hn : its.length = ys.length + 1 := by
      have z := dp_len hd
      have w := Vals.length rv
      rw [List.length_cons] at z
      omega
    obtain ⟨i, hi, ei, gi⟩ := fold_at x ys
    have e1 : its.toArray.size - 1 = ys.length := by rw [List.size_toArray, hn]; rfl
    rw [e1, ei] at hv
    obtain ⟨z, hz, rz⟩ := vals_at (H := H) rv (i := i) (u := v) (by simpa using hv)
    exact ⟨z, H, I.kept k, rz, q z _ ⟨⟨i, hz, gi⟩, fun r e as tr y hy => by
      have w := fold_min (r := r) (fun t => t ∈ x :: ys) e as tr ys x List.mem_cons_self fun y hy => List.mem_cons_of_mem _ hy
      rcases List.mem_cons.mp hy with rfl | hy
      · exact w.2.1
      · exact w.2.2 y hy⟩⟩
  have hh := I.ok.hd hc
  rcases hs with hs | hs
  · obtain ⟨its, rv, hl, _⟩ := I.list hs
    obtain ⟨as, hr⟩ := Dp.readsAll I (x :: ys) xs its hd rv
    have hr' : ReadsAll s.heap its.toArray.toList (x :: ys) as := hr
    refine call_min_walkH (iter_listW (A := X.A.in1) hh hl.isList fun s₂ e W st hfp hw hk => ?_)
    have hn : its.toArray.size = ys.length + 1 := readsAll_len hr'
    refine ⟨_, _, _, _, _, _, _, s.heap, _, rfl, W, st, hfp, by omega, hw, hk, cmpIn_lt (A := X.A.in1) hr' al (by show X.A.units + 1 + _ < _; omega), fun v s' hP m => ?_⟩
    obtain ⟨h', tk, rfl, hk'⟩ := moved_old e rfl m
    exact fin its rv v h' tk hP hk'
  · obtain ⟨its, rv, hl, _⟩ := I.tuple hs
    obtain ⟨as, hr⟩ := Dp.readsAll I (x :: ys) xs its hd rv
    have hr' : ReadsAll s.heap its.toArray.toList (x :: ys) as := hr
    refine call_min_walkH (iter_tupleW (A := X.A.in1) hh (show s.heap.IsTuple a its.toArray from hl) fun s₂ e W st hfp hw hk => ?_)
    have hn : its.toArray.size = ys.length + 1 := readsAll_len hr'
    refine ⟨_, _, _, _, _, _, _, s.heap, _, rfl, W, st, hfp, by omega, hw, hk, cmpIn_lt (A := X.A.in1) hr' al (by show X.A.units + 1 + _ < _; omega), fun v s' hP m => ?_⟩
    obtain ⟨h', tk, rfl, hk'⟩ := moved_old e rfl m
    exact fin its rv v h' tk hP hk'
/-- min of two -/
def rMin2D (K : PySem.W.Frag) : List V → Hp → VK → Prop := fun vs H Q => ∃ (x y : V) (d e : PyData), vs = [x, y] ∧ Dp K H x d ∧ Dp K H y e ∧ AlikeAll [d, e] ∧ PyData.depthAll [d, e] ≤ 50 ∧ Q (if dataLt e d = true then y else x) H
theorem call_min_twoH {prog : Program} {w : World} {A : Around} {E : Value → Shared → Prop} {s : Shared} {a b : Value} {Q : Value → Shared → Prop}
    (h : wpAny (model prog w) A.in1 (pyIter (.ref s.heap.objs.size)) (fun it s₂ => ∃ I fp wr G n P St H bt, it = .ref I ∧ WalksS prog w A.in1 I fp wr G n P St ∧ St 0 s₂ ∧ (∀ b ∈ fp, b < s₂.heap.objs.size) ∧ 0 < n ∧
      (∀ b o, H.get? b = some o → b ∉ wr) ∧ (∀ b o, H.get? b = some o → s₂.heap.get? b = some o) ∧ CmpIn prog w A.in1 .Lt H P bt ∧ ∀ v s', P (argBest bt (n - 1)) v → Moved wr G s₂ s' → Q v s') E { s with heap := s.heap.push { cls := .type "tuple", data := .seq #[a, b] } }) :
    wpAny (model prog w) A (call (.builtin "min") [a, b]) Q E s := by
  have hname : (toString "min" ++ toString ".loop" : String) = "min.loop" := by decide
  refine call_function_tree F.kind_min F.plain_min F.entry_min (F.args_min2 _ _) ?_
  show wpAny _ A.in1 (Builtin.Builtins.bindParams "min" ["key", "default"] 0 ⟨[], []⟩ >>= _) _ _ s
  refine wpAny_bind (wpAny_of_eq (show Builtin.Builtins.bindParams "min" ["key", "default"] 0 ⟨[], []⟩ = pure [none, none] from rfl) ?_)
  show wpAny _ A.in1 (newTuple [a, b] >>= _) _ _ s
  refine wpAny_bind (wpAny_newObj_type ?_)
  refine wpAny_bind (wpAny_mono h (fun it s₂ h₂ => ?_) fun _ _ e => e)
  obtain ⟨I, fp, wr, G, n, P, St, H, bt, rfl, W, hst, hfp, hn, hw, hkeep, hcmp, hQ⟩ := h₂
  refine wpAny_bind (wpAny_newObj_type ?_)
  have hSf : s₂.heap.objs.size ∉ fp := fun hm => Nat.lt_irrefl _ (hfp _ hm)
  rw [hname]
  refine wpAny_pure ⟨plainId_quiet F.plain_min_loop _, codeAny_min_loop_firstH W H hw bt hcmp s₂.heap.objs.size hSf (fresh_in hkeep) _ hn (fun b o e => Heap.get?_push_of_some _ (hkeep b o e)) (W.frame 0 s₂ _ s₂.toks hst (Nat.le_refl _) fun b _ o e => Heap.get?_push_of_some _ e) (Heap.get?_push_size _ rfl) fun v s' hP hm => ?_⟩
  exact hQ v s' hP (Moved.drop_new (tk := s₂.toks) hm (Nat.le_refl _))
theorem cr_min2D (hc : X.calm = true) (hu : X.A.units + 64 < cLine) : CallR X (.builtin "min") (rMin2D X.K) := by
  intro pins s σ H vs us Q I r h
  obtain ⟨x, y, d, e, rfl, hx, hy, al, dp, q⟩ := h
  obtain ⟨u, w', rfl, rx, ry⟩ := vals2 r
  have hh := I.ok.hd hc
  obtain ⟨as, r1⟩ := Dp.reads I d x u hx rx
  obtain ⟨bs, r2⟩ := Dp.reads I e y w' hy ry
  have hT : (s.heap.push { cls := .type "tuple", data := .seq #[u, w'] }).IsTuple s.heap.objs.size #[u, w'] := ⟨_, Heap.get?_push_size _ rfl, rfl, 0, rfl⟩
  refine call_min_twoH (iter_tupleW (s := { s with heap := s.heap.push { cls := .type "tuple", data := .seq #[u, w'] } }) (A := X.A.in1) hh hT fun s₂ es W st hfp hw hk => ?_)
  have kp : ∀ b o, s.heap.get? b = some o → (s.heap.push { cls := .type "tuple", data := .seq #[u, w'] }).get? b = some o := fun b o e => Heap.get?_push_of_some _ e
  have hr : ReadsAll (s.heap.push { cls := .type "tuple", data := .seq #[u, w'] }) (#[u, w'] : Array Value).toList [d, e] (as ++ (bs ++ [])) := .cons (reads_keeps kp r1) (.cons (reads_keeps kp r2) .nil)
  refine ⟨_, _, _, _, _, _, _, (s.heap.push { cls := .type "tuple", data := .seq #[u, w'] }), _, rfl, W, st, hfp, (by show 0 < 2; decide), hw, hk, cmpIn_lt (A := X.A.in1) (s := { s with heap := s.heap.push { cls := .type "tuple", data := .seq #[u, w'] } }) hr al (by show X.A.units + 1 + _ < _; omega), fun v s' hP m => ?_⟩
  obtain ⟨h', tk, rfl, hk'⟩ := moved_old es rfl m
  refine ⟨if dataLt e d = true then y else x, H, I.kept fun b o eb => hk' b o (kp b o eb), ?_, q⟩
  have e2 : argBest (fun i j => dataLt ([d, e].getD i .none) ([d, e].getD j .none)) ((#[u, w'] : Array Value).size - 1) = if dataLt e d = true then 1 else 0 := rfl
  rw [e2] at hP
  by_cases c : dataLt e d = true
  · rw [if_pos c] at hP ⊢
    cases (show some w' = some v from hP)
    exact ry
  · rw [if_neg c] at hP ⊢
    cases (show some u = some v from hP)
    exact rx
end
end OwMn


namespace OwW
open PySem PyProof.Rows L2 L2H OwX Rd Evl
abbrev sTieO : Stmt := top 20
abbrev sLAcr : Stmt := top 60
abbrev NLw2 : List Str := ["_law_plain_here", "_law_places", "_law_tie_here"]
abbrev sLots : Stmt := top 51
abbrev NLo : List Str := ["_law_plain_here", "_law_gone", "_law_left", "_law_found", "_law_lot", "_law_turn", "_law_more", "_law_a", "_law_b", "_law_place"]
theorem norm_same (b : Str) : norm (b, b) = (b, b) := by
  unfold norm OwL2.minS OwL2.maxS
  simp only [lt_irr]
  rfl
theorem norm_if (a b : Str) : (if OwL2.lt a b = true then (a, b) else (b, a)) = norm (a, b) := by
  by_cases e : a = b
  · rw [e, if_neg (by rw [lt_irr]; exact Bool.false_ne_true), norm_same]
  · rcases norm_cases a b e with ⟨z, l⟩ | ⟨z, l⟩
    · rw [if_pos l, z]
    · rw [z]
      rw [if_neg]
      intro l2
      have := lt_tr l l2
      rw [lt_irr] at this
      exact nomatch this
theorem pl_get {H : Hp} {d kp tp : Addr} (h1 : H d = some (.dK [(Sum.inr "places", .ref kp), (Sum.inr "ties", .ref tp)])) : DGet H d (.str "places") (some (.ref kp)) ∧ DGet H d (.str "ties") (some (.ref tp)) := by
  constructor
  · have z := DGet.k (k := Sum.inr "places") h1
    rw [valV_pos rfl] at z
    exact z
  · have z := DGet.k (k := Sum.inr "ties") h1
    have ne : ¬ (Sum.inr ("places" : Str) : Key) = (Sum.inr ("ties" : Str) : Key) := by decide +kernel
    rw [valV_neg ne, valV_pos rfl] at z
    exact z
theorem dpL {K : PySem.W.Frag} {H : Hp} {D : Addr} {ss : List Str} (h : H D = some (.lst (ss.map V.str))) : Dp K H (.ref D) (.list (ss.map PyData.str)) := .lst (SqL.of h) (OwP.dp_strs ss)
theorem shaped_lst {ss : List Str} (h : ∀ s ∈ ss, PyData.strOk s = true) : SeqAt.shaped (.list (ss.map PyData.str)) = true := by
  obtain ⟨a, b⟩ := lay_strsT h
  simp [SeqAt.shaped, PyData.canLay0, PyData.depth, a, b]
theorem eqv_nilS : ∀ ss : List Str, PyData.eqv (.list (ss.map PyData.str)) (.list []) = ss.isEmpty
  | [] => by simp [PyData.eqv, PyData.eqvAll]
  | s :: r => by simp [PyData.eqv, PyData.eqvAll]
theorem ends_iff {ts : List (Str × Str)} {a b : Str} : b ∈ endsL ts a ↔ (a, b) ∈ ts ∨ (b, a) ∈ ts := by
  unfold endsL
  rw [List.mem_map]
  constructor
  · rintro ⟨⟨u, v⟩, h, rfl⟩
    obtain ⟨h1, h2⟩ := List.mem_filter.mp h
    unfold hits at h2
    unfold far
    by_cases c : u = a
    · subst c
      rw [if_pos rfl]
      exact .inl h1
    · rw [if_neg c]
      have e : v = a := by simpa [c] using h2
      subst e
      exact .inr h1
  · rintro (h | h)
    · refine ⟨(a, b), List.mem_filter.mpr ⟨h, by simp [hits]⟩, ?_⟩
      unfold far
      rw [if_pos rfl]
    · refine ⟨(b, a), List.mem_filter.mpr ⟨h, by simp [hits]⟩, ?_⟩
      unfold far
      by_cases c : b = a
      · rw [if_pos c]
        exact c.symm
      · rw [if_neg c]
/-- a lot on its way: names of L that hang together with the first -/
structure LotI (ts : List (Str × Str)) (L : List Str) (x0 : Str) (lot : List Str) : Prop where
  nd : lot.Nodup
  sub : ∀ y ∈ lot, y ∈ L
  at_ : x0 ∈ lot
  rch : ∀ y ∈ lot, Rch ts x0 y
/-- what one turn adds, behind i ties -/
structure MoreI (ts : List (Str × Str)) (L : List Str) (x0 : Str) (lot more : List Str) (i : Nat) : Prop where
  nd : (lot ++ more).Nodup
  sub : ∀ y ∈ more, y ∈ L
  rch : ∀ y ∈ more, Rch ts x0 y
  all : ∀ (j : Nat) (a b : Str), j < i → ts[j]? = some (a, b) → (a ∈ lot → b ∈ L → b ∈ lot ++ more) ∧ (b ∈ lot → a ∈ L → a ∈ lot ++ more)
def Closed (ts : List (Str × Str)) (L lot : List Str) : Prop := ∀ a b, (a, b) ∈ ts → (a ∈ lot → b ∈ L → b ∈ lot) ∧ (b ∈ lot → a ∈ L → a ∈ lot)
theorem MoreI.start {ts : List (Str × Str)} {L : List Str} {x0 : Str} {lot : List Str} (l : LotI ts L x0 lot) : MoreI ts L x0 lot [] 0 := ⟨by rw [List.append_nil]; exact l.nd, (fun _ h => nomatch h), (fun _ h => nomatch h), fun _ _ _ h => absurd h (Nat.not_lt_zero _)⟩
theorem MoreI.add {ts : List (Str × Str)} {L : List Str} {x0 : Str} {lot more : List Str} {i : Nat} (m : MoreI ts L x0 lot more i) {y : Str} (hy : y ∈ L) (hr : Rch ts x0 y) (hn : ¬ y ∈ lot ++ more) : MoreI ts L x0 lot (more ++ [y]) i := by
  refine ⟨?_, fun z hz => ?_, fun z hz => ?_, fun j a b hj h => ?_⟩
  · rw [← List.append_assoc]
    exact List.nodup_append.mpr ⟨m.nd, by simp, fun a ha b hb e => hn (by rw [← List.mem_singleton.mp hb, ← e]; exact ha)⟩
  · rcases List.mem_append.mp hz with h | h
    · exact m.sub z h
    · rw [List.mem_singleton.mp h]; exact hy
  · rcases List.mem_append.mp hz with h | h
    · exact m.rch z h
    · rw [List.mem_singleton.mp h]; exact hr
  · have up : ∀ {z}, z ∈ lot ++ more → z ∈ lot ++ (more ++ [y]) := fun h => by
      rw [← List.append_assoc]
      exact List.mem_append_left _ h
    obtain ⟨p, q⟩ := m.all j a b hj h
    exact ⟨fun h1 h2 => up (p h1 h2), fun h1 h2 => up (q h1 h2)⟩
theorem MoreI.step {ts : List (Str × Str)} {L : List Str} {x0 : Str} {lot more : List Str} {i : Nat} (m : MoreI ts L x0 lot more i) {a b : Str} (h : ts[i]? = some (a, b)) (h1 : a ∈ lot → b ∈ L → b ∈ lot ++ more) (h2 : b ∈ lot → a ∈ L → a ∈ lot ++ more) : MoreI ts L x0 lot more (i + 1) :=
  ⟨m.nd, m.sub, m.rch, fun j c d hj hc => by
    rcases Nat.lt_or_eq_of_le (Nat.le_of_lt_succ hj) with z | z
    · exact m.all j c d z hc
    · subst z
      rw [h] at hc
      cases hc
      exact ⟨h1, h2⟩⟩
theorem MoreI.grow {ts : List (Str × Str)} {L : List Str} {x0 : Str} {lot more : List Str} {i : Nat} (l : LotI ts L x0 lot) (m : MoreI ts L x0 lot more i) : LotI ts L x0 (lot ++ more) :=
  ⟨m.nd, fun y hy => (List.mem_append.mp hy).elim (l.sub y) (m.sub y), List.mem_append_left _ l.at_, fun y hy => (List.mem_append.mp hy).elim (l.rch y) (m.rch y)⟩
theorem MoreI.closed {ts : List (Str × Str)} {L : List Str} {x0 : Str} {lot : List Str} (m : MoreI ts L x0 lot [] ts.length) : Closed ts L lot := fun a b h => by
  obtain ⟨j, hj, e⟩ := List.getElem_of_mem h
  have z := m.all j a b hj (by rw [List.getElem?_eq_getElem hj, e])
  rw [List.append_nil] at z
  exact z
theorem closed_all {ts : List (Str × Str)} {ks lot : List Str} {x0 : Str} (hin : ∀ t ∈ ts, t.1 ∈ ks ∧ t.2 ∈ ks) (c : Closed ts ks lot) (h0 : x0 ∈ lot) {k : Str} (r : Rch ts x0 k) : k ∈ lot := by
  induction r with
  | here => exact h0
  | on _ hb ih =>
    rcases ends_iff.mp hb with z | z
    · exact (c _ _ z).1 ih (hin _ z).2
    · exact (c _ _ z).2 ih (hin _ z).1
theorem full_len {ts : List (Str × Str)} {L lot : List Str} {x0 : Str} (l : LotI ts L x0 lot) : lot.length ≤ L.length := nodup_le lot L l.nd l.sub
def tmk (ls : List (Addr × List Str)) : List V := ls.map fun p => V.ref p.1
theorem rch_con {ts : List (Str × Str)} {x k : Str} : Rch ts x k ↔ OwG.Con ts x k := by
  constructor
  · intro h
    induction h with
    | here => exact .here
    | on _ e ih => exact ih.on (ends_iff.mp e)
  · intro h
    induction h with
    | here => exact .here
    | on _ e ih => exact ih.on (ends_iff.mpr e)
/-- one lot, sorted: all that hangs together with its first -/
structure LotOk (ts : List (Str × Str)) (l : List Str) : Prop where
  so : sortedS l = true
  nd : l.Nodup
  ex : ∃ x, x ∈ l ∧ ∀ k, k ∈ l ↔ Rch ts x k
structure LotsI (ks : List Str) (ts : List (Str × Str)) (L : List Str) (fs : List (Addr × List Str)) : Prop where
  ok : ∀ p ∈ fs, LotOk ts p.2
  all : ∀ k ∈ ks, k ∈ L ∨ ∃ p ∈ fs, k ∈ p.2
  cl : ∀ a b, (a, b) ∈ ts → (a ∈ L ↔ b ∈ L)
  sub : ∀ p ∈ fs, ∀ k ∈ p.2, k ∈ ks
theorem LotsI.start {ks : List Str} {ts : List (Str × Str)} (h : ∀ t ∈ ts, t.1 ∈ ks ∧ t.2 ∈ ks) : LotsI ks ts ks [] := ⟨(fun _ z => nomatch z), fun _ z => .inl z, fun a b z => ⟨fun _ => (h _ z).2, fun _ => (h _ z).1⟩, (fun _ z => nomatch z)⟩
theorem LotsI.step {ks : List Str} {ts : List (Str × Str)} {L : List Str} {fs : List (Addr × List Str)} (I : LotsI ks ts L fs) (hs : ∀ k ∈ L, k ∈ ks) {x0 : Str} {lot ys : List Str} {T : Addr} (l : LotI ts L x0 lot) (c : Closed ts L lot) (so : sortedS ys = true) (pm : ys.Perm lot) : LotsI ks ts (L.filter fun k => !decide (k ∈ lot)) (fs ++ [(T, ys)]) := by
  have mf : ∀ k, k ∈ L.filter (fun k => !decide (k ∈ lot)) ↔ k ∈ L ∧ ¬ k ∈ lot := fun k => by rw [List.mem_filter]; simp
  have cc : ∀ a b, (a, b) ∈ ts → (a ∈ lot ↔ b ∈ lot) := fun a b h => ⟨fun z => (c a b h).1 z ((I.cl a b h).mp (l.sub a z)), fun z => (c a b h).2 z ((I.cl a b h).mpr (l.sub b z))⟩
  refine ⟨fun p hp => ?_, fun k hk => ?_, fun a b h => ?_, fun p hp k hk => ?_⟩
  · rcases List.mem_append.mp hp with z | z
    · exact I.ok p z
    · rw [List.mem_singleton.mp z]
      refine ⟨so, pm.symm.nodup l.nd, x0, pm.mem_iff.mpr l.at_, fun k => ⟨fun z => l.rch k (pm.mem_iff.mp z), fun z => pm.mem_iff.mpr ?_⟩⟩
      induction z with
      | here => exact l.at_
      | on _ hb ih =>
        rcases ends_iff.mp hb with z | z
        · exact (cc _ _ z).mp ih
        · exact (cc _ _ z).mpr ih
  · rcases I.all k hk with z | ⟨p, hp, z⟩
    · by_cases d : k ∈ lot
      · exact .inr ⟨_, List.mem_append_right _ List.mem_cons_self, pm.mem_iff.mpr d⟩
      · exact .inl ((mf k).mpr ⟨z, d⟩)
    · exact .inr ⟨p, List.mem_append_left _ hp, z⟩
  · rw [mf, mf, I.cl a b h, cc a b h]
  · rcases List.mem_append.mp hp with z | z
    · exact I.sub p z k hk
    · rw [List.mem_singleton.mp z] at hk
      exact hs k (l.sub k (pm.mem_iff.mp hk))
/-- the lots of ties, in some order -/
structure Lots (ks : List Str) (ts : List (Str × Str)) (fs : List (Addr × List Str)) : Prop where
  ok : ∀ p ∈ fs, LotOk ts p.2
  all : ∀ k ∈ ks, ∃ p ∈ fs, k ∈ p.2
  sub : ∀ p ∈ fs, ∀ k ∈ p.2, k ∈ ks
def spLKeep (g : List Str → Str × Str → Bool) : Sp := fun vs H Q _ => ∃ (d p : Addr) (ks es : List Str) (zs : TL), vs = [.ref d, .ref p] ∧ PlainAt H d ks zs ∧ zs.length ≤ 18 ∧ H p = some (.tup (es.map V.str)) ∧
  ∀ q H', Ex H H' → H' q = some (.lst (rf (zs.filter fun u => g es u.2))) → TA H' (zs.filter fun u => g es u.2) → Q (.ref q) H'
def spLots : Sp := fun vs H Q _ => ∃ (d g : Addr) (ks : List Str) (zs : TL), vs = [.ref d, .ref g] ∧ PlainAt H d ks zs ∧ H g = some (.tup []) ∧ (∀ k ∈ ks, nameB k = true) ∧ ks.Nodup ∧ 1 ≤ ks.length ∧ ks.length ≤ 40 ∧ zs.length ≤ 18 ∧ (∀ t ∈ zs.map (·.2), t.1 ∈ ks ∧ t.2 ∈ ks) ∧
  ∀ q H' (fs : List (Addr × List Str)), Ex H H' → H' q = some (.lst (tmk fs)) → (∀ p ∈ fs, H' p.1 = some (.tup (p.2.map V.str))) → fs.length ≤ 40 → Lots ks (zs.map (·.2)) fs → Q (.ref q) H'
theorem keep_names (ls : List Str) (p : Str → Bool) : ((List.range (ls.map V.str).length).filter fun i => p (ls.getD i "")).map (fun i => V.str (ls.getD i "")) = (ls.filter p).map V.str := by
  have z := congrArg (List.map V.str) (range_filter ls "" p)
  rw [List.map_map] at z
  rw [List.length_map]
  exact z
/-- [x for x in names if ..] -/
theorem lc_strs {J : It} {G : Hp → Prop} {ls : List Str} (wk : Walk J (ls.map V.str).length G (YAt (ls.map V.str))) (p : Str → Bool) {gt : TG} {tt : TT} {te : TE} {js : List Nat} {σ : L2.St} {H1 : Hp} {D : Addr} {Qd : Hp → Prop} (hD : H1 D = none) (hl : ls.length ≤ 100000) (hG : ∀ H', Ex H1 H' → G H')
    (hs : ∀ x ∈ ls, ∀ (H : Hp) (B : L2.St → Bool → Hp → Prop), Ex H1 H → (∀ σ2 H4, Ex H H4 → (p x = true → ∀ R : V → Hp → Prop, (∀ H5, Ex H H5 → R (.str x) H5) → te σ2 H4 R) → B σ2 (p x) H4) → gt (.str x) (wipe σ js) H fun σ2 H2 => wipe σ2 js = wipe σ js ∧ tt σ2 H2 (B σ2))
    (hd : ∀ H, Ex H1 H → H D = some (.lst ((ls.filter p).map V.str)) → Qd H) :
    ∃ W : Nat → Nat → Hp → Prop, (∃ m, W 0 m (upd H1 D (.lst []))) ∧ ∀ i m H, W i m H →
      (J.stop i H ∧ Qd H) ∨ (J.go i H ∧ ∃ Nx : Hp → Prop, (∀ H', Nx H' → ∃ m', m' < m ∧ W (i + 1) m' H') ∧ ∀ x H', J.yld i H x H' → gt x (wipe σ js) H' fun σ2 H2 => wipe σ2 js = wipe σ js ∧ tt σ2 H2 fun b H3 =>
        if b = true then te σ2 H3 fun y H4 => ∃ acc, H4 D = some (.lst acc) ∧ acc.length < sizeLine ∧ Nx (upd H4 D (.lst (acc ++ [y]))) else Nx H3) := by
  refine Rd.lc_keepG wk (fun i => p (ls.getD i "")) (fun i => V.str (ls.getD i "")) hD (by rw [List.length_map]; omega) hG (fun i x H H' B hi ea y hB => ?_) (fun H e h => hd H e (by rw [h, keep_names]))
  obtain ⟨rfl, hx⟩ := y
  rw [List.getElem?_map] at hx
  cases hu : ls[i]? with
  | none => rw [hu] at hx; exact nomatch hx
  | some u =>
    rw [hu] at hx
    cases hx
    have eu : ls.getD i "" = u := by rw [List.getD_eq_getElem?_getD, hu]; rfl
    rw [eu] at hB
    exact hs u (List.mem_of_getElem? hu) _ B ea hB
/-- if x in lot and y in left and y not in lot + more: more.append(y) -/
theorem lots_if {K : PySem.W.Frag} {i j n : Nat} {σ : L2.St} {D : L2.Ends} {H0 Hc : Hp} {Al Dl M : Addr} {x y x0 : Str} {ts : List (Str × Str)} {L lot more : List Str} (hx : σ[i]? = some (some (.str x))) (hy : σ[j]? = some (some (.str y))) (h4 : σ[4]? = some (some (.ref Al))) (h2 : σ[2]? = some (some (.ref Dl))) (h6 : σ[6]? = some (some (.ref M)))
    (e : Ex H0 Hc) (hM : H0 M = none) (a0 : H0 Al = some (.lst (lot.map V.str))) (d0 : H0 Dl = some (.lst (L.map V.str))) (m : Hc M = some (.lst (more.map V.str))) (mi : MoreI ts L x0 lot more n) (ll : L.length ≤ 40) (hl : lot.length ≤ 40) (hr : x ∈ lot → Rch ts x0 y)
    (k : ∀ more' H', Ex H0 H' → H' M = some (.lst (more'.map V.str)) → MoreI ts L x0 lot more' n → (x ∈ lot → y ∈ L → y ∈ lot ++ more') → (∀ z ∈ lot ++ more, z ∈ lot ++ more') → D.nx σ H') :
    tIfS (tAnd (tTest (tOp (rIn K false) (tVar i) (tVar 4))) (tAnd (tTest (tOp (rIn K false) (tVar j) (tVar 2))) (tTest (tOp (rIn K true) (tVar j) (tOp rCat (tVar 4) (tVar 6)))))) (tDrop (tBM K "list" rAppend (tVar 6) (tCons (tVar j) tNil))) tNext D σ Hc := by
  have ml : more.length ≤ 40 := Nat.le_trans (nodup_le more L (List.nodup_append.mp mi.nd).2.1 mi.sub) ll
  have f : ∀ (s : Str) (l : List Str), (if false = true then !inV (.str s) (l.map V.str) else inV (.str s) (l.map V.str)) = decide (s ∈ l) := fun s l => by rw [if_neg (by decide), inV_strs]
  have g : ∀ (s : Str) (l : List Str), (if true = true then !inV (.str s) (l.map V.str) else inV (.str s) (l.map V.str)) = !decide (s ∈ l) := fun s l => by rw [if_pos rfl, inV_strs]
  refine ⟨_, hx, _, h4, Al, _, rfl, .inl (SqL.of (e _ _ a0)), rfl, flat_strs lot, ?_⟩
  rw [f]
  refine ⟨_, rfl, ?_⟩
  by_cases c : x ∈ lot
  · rw [decide_eq_true c]
    refine Rd.iteT rfl ?_
    refine ⟨_, hy, _, h2, Dl, _, rfl, .inl (SqL.of (e _ _ d0)), rfl, flat_strs L, ?_⟩
    rw [f]
    refine ⟨_, rfl, ?_⟩
    by_cases c2 : y ∈ L
    · rw [decide_eq_true c2]
      refine Rd.iteT rfl ?_
      refine ⟨_, hy, _, h4, _, h6, Al, M, _, _, rfl, rfl, e _ _ a0, m, by rw [List.length_map, List.length_map, sizeLine_eq]; omega, fun S hS => ?_⟩
      rw [← List.map_append]
      have eS : Ex Hc (upd Hc S (.lst ((lot ++ more).map V.str))) := Ex.new hS
      have s1 : (upd Hc S (.lst ((lot ++ more).map V.str))) S = some (.lst ((lot ++ more).map V.str)) := upd_same
      generalize upd Hc S (.lst ((lot ++ more).map V.str)) = Hd at eS s1 ⊢
      refine ⟨S, _, rfl, .inl (SqL.of s1), rfl, flat_strs _, ?_⟩
      rw [g]
      refine ⟨_, rfl, ?_⟩
      have e2 := e.trans eS
      by_cases c3 : y ∈ lot ++ more
      · rw [decide_eq_true c3]
        refine Rd.iteF (by decide) ?_
        exact k more Hd e2 (eS _ _ m) mi (fun _ _ => c3) fun _ h => h
      · rw [decide_eq_false c3]
        refine Rd.iteT (by decide) ?_
        have m2 := eS _ _ m
        refine ⟨_, h6, .inl ⟨rfl, _, SqL.of m2⟩, _, hy, M, _, _, rfl, rfl, m2, sz_lt (by rw [List.length_map]; omega), ?_⟩
        refine k (more ++ [y]) _ (e2.mut hM) (by rw [upd_same, List.map_append]; rfl) (mi.add c2 (hr c) c3) (fun _ _ => by simp) fun z hz => ?_
        rw [← List.append_assoc]
        exact List.mem_append_left _ hz
    · rw [decide_eq_false c2]
      refine Rd.iteF (by decide) (Rd.iteF (by decide) ?_)
      exact k more Hc e m mi (fun _ h => absurd h c2) fun _ h => h
  · rw [decide_eq_false c]
    refine Rd.iteF (by decide) (Rd.iteF (by decide) ?_)
    exact k more Hc e m mi (fun h => absurd h c) fun _ h => h
section
variable {P : Program} {w : World} {K : PySem.W.Frag} {mg : Str → Option Value} {base : Heap}
theorem scTieO : FnScope ["a", "b"] ["a", "b"] (defScope sTieO) := ⟨rfl, rfl, rfl, by decide +kernel, rfl, by decide +kernel, by decide +kernel⟩
theorem ok_tieo {f : Addr} {fd : FuncData} (F : Fun K "tie_of" "tie_of" sTieO f fd) : FnOk P w K mg base CX0 1 f fd ["a", "b"] spTie := by
  have nd := scTieO.nd
  refine F.ok scTieO (fun vs H Q E h => ?_) (fun cdv A outer s H vs Q E hr h => ⟨_, (pss_one (ps_ret (pe_ifExp (pt_cmpR op_lt_str (pv 0) (pv 1) (nomark _)) (pe_tup (pa_cons (pv 0) (pa_cons (pv 1) pa_nil))) (pe_tup (pa_cons (pv 1) (pa_cons (pv 0) pa_nil)))))), ?_⟩)
  · obtain ⟨a, b, rfl, _⟩ := h
    rfl
  · obtain ⟨a, b, rfl, k⟩ := h
    walk_at "rd"
    refine ⟨a, b, rfl, rfl, ?_⟩
    refine ⟨_, rfl, ?_⟩
    have en := norm_if a b
    by_cases c : OwL2.lt a b = true
    · rw [if_pos c] at en
      refine Rd.iteT c ?_
      walk_at "rd"
      refine ⟨small64 (n := 2) (by decide), fun p hp => ?_⟩
      exact k p _ (Ex.new hp) (by rw [← en]; exact upd_same) hp
    · rw [if_neg c] at en
      refine Rd.iteF c ?_
      walk_at "rd"
      refine ⟨small64 (n := 2) (by decide), fun p hp => ?_⟩
      exact k p _ (Ex.new hp) (by rw [← en]; exact upd_same) hp
theorem scLAcr : FnScope NLw2 ["_law_plain_here", "_law_places"] (defScope sLAcr) := ⟨rfl, rfl, rfl, by decide +kernel, rfl, by decide +kernel, by decide +kernel⟩
theorem ok_lacr {f : Addr} {fd : FuncData} (F : Fun K "_law_across" "_law_across" sLAcr f fd) : FnOk P w K mg base CX0 1 f fd ["_law_plain_here", "_law_places"] (spLKeep acrossB) := by
  have nd := scLAcr.nd
  refine F.ok scLAcr (fun vs H Q E h => ?_) (fun cdv A outer s H vs Q E hr h => ⟨_, (pss_one (ps_ret (pe_lc (own := [("_law_tie_here", 2)]) (g := gName 2) (tt := tTest (tOp rNe (tOp (rIn K false) (tOp (rIxT K) (tVar 2) (tC (V.int 0))) (tVar 1)) (tOp (rIn K false) (tOp (rIxT K) (tVar 2) (tC (V.int 1))) (tVar 1)))) rfl nd (pi_list (pe_dget (units1 hr) (pv 0) pe_str (fun _ _ => rfl))) (blkOk_by (own := [("_law_tie_here", 2)]) (N := NLw2) (sc := defScope sLAcr) (by decide +kernel)) (fun _ _ _ _ _ => (pg_name (i := 2) nd rfl (Or.inl rfl))) (fun _ _ _ _ _ => (pts_one (pt_cmpR op_ne (pe_cmpR op_in_seq (pe_ix ix_tup (pv 2) pe_int (fun _ _ => rfl)) (pv 1) (by with_unfolding_all rfl)) (pe_cmpR op_in_seq (pe_ix ix_tup (pv 2) pe_int (fun _ _ => rfl)) (pv 1) (by with_unfolding_all rfl)) (nomark _)))) (fun _ _ _ _ _ => (pv 2))))), ?_⟩)
  · obtain ⟨d, p, ks, es, zs, rfl, _⟩ := h
    rfl
  · obtain ⟨d, p, ks, es, zs, rfl, pl, zl, hp, k⟩ := h
    obtain ⟨⟨kp, tp, h1, h2, h3⟩, ta⟩ := pl
    rw [show L2.start NLw2 [V.ref d, V.ref p] = [some (.ref d), some (.ref p), none] from rfl]
    walk_at "rd"
    refine Rd.lcm' ?_
    unfold iList tDGet
    walk_at "rd"
    refine ⟨d, _, rfl, (pl_get h1).2, tp, rfl, ⟨_, SqL.of h3⟩, fun D hD => ?_⟩
    refine lc_ties (walk_list (xs := rf zs)) (acrossB es) hD (by omega) (fun H' e => ex_l e (SqL.of h3)) (fun u hu Ha B ea hB => ?_) (fun H4 e4 l4 => ?_)
    · show _ ∧ _
      refine ⟨rfl, ?_⟩
      have hu' := ta.ex ea u hu
      have hp' := ea _ _ hp
      walk_at "rd"
      refine Rd.ixt (v := .str u.2.1) (SqT.of hu') rfl ?_
      walk_at "rd"
      refine ⟨p, _, rfl, Or.inr (SqT.of hp'), rfl, flat_strs es, ?_⟩
      walk_at "rd"
      refine Rd.ixt (v := .str u.2.2) (SqT.of hu') rfl ?_
      walk_at "rd"
      refine ⟨p, _, rfl, Or.inr (SqT.of hp'), rfl, flat_strs es, ?_⟩
      have z1 : (if false = true then !inV (.str u.2.1) (es.map V.str) else inV (.str u.2.1) (es.map V.str)) = decide (u.2.1 ∈ es) := by rw [if_neg (by decide), inV_strs]
      have z2 : (if false = true then !inV (.str u.2.2) (es.map V.str) else inV (.str u.2.2) (es.map V.str)) = decide (u.2.2 ∈ es) := by rw [if_neg (by decide), inV_strs]
      rw [z1, z2]
      refine Rd.ne rfl ?_
      have e0 : (!decide (V.bl (decide (u.2.1 ∈ es)) = V.bl (decide (u.2.2 ∈ es)))) = acrossB es u.2 := by
        unfold acrossB
        by_cases c : u.2.1 ∈ es <;> by_cases d : u.2.2 ∈ es <;> simp [c, d]
      rw [e0]
      refine ⟨_, rfl, ?_⟩
      refine hB _ _ (Ex.refl _) fun _ R hR => ?_
      walk_at "rd"
      exact hR _ (Ex.refl _)
    · walk_at "rd"
      exact k D H4 e4 l4 fun u hu => ta.ex e4 u (List.mem_filter.mp hu).1
theorem scLots : FnScope NLo ["_law_plain_here", "_law_gone"] (defScope sLots) := ⟨rfl, rfl, rfl, by decide +kernel, rfl, by decide +kernel, by decide +kernel⟩
theorem ok_lots {f : Addr} {fd : FuncData} (F : Fun K "_law_lots" "_law_lots" sLots f fd) (gLe : mg "len" = none) (gRa : mg "range" = none) (gTu : mg "tuple" = none) (gSo : mg "sorted" = none) : FnOk P w K mg base CX0 1 f fd ["_law_plain_here", "_law_gone"] spLots := by
  have nd := scLots.nd
  refine F.ok scLots (fun vs H Q E h => ?_) (fun cdv A outer s H vs Q E hr h => ⟨_, (pss_cons (ps_par (i := 2) (j := 3) rfl nd rfl rfl (by decide) rfl rfl (pa_cons (pe_lc (own := [("_law_place", 9)]) (g := gName 9) (tt := tTest (tOp (rIn K true) (tVar 9) (tVar 1))) rfl nd (pi_list (pe_dget (units1 hr) (pv 0) pe_str (fun _ _ => rfl))) (blkOk_by (own := [("_law_place", 9)]) (N := NLo) (sc := defScope sLots) (by decide +kernel)) (fun _ _ _ _ _ => (pg_name (i := 9) nd rfl (Or.inl rfl))) (fun _ _ _ _ _ => (pts_one (pt_cmpR op_notIn_seq (pv 9) (pv 1) (by with_unfolding_all rfl)))) (fun _ _ _ _ _ => (pv 9))) (pa_cons (pe_lstN pa_nil) pa_nil)) rfl)
    (pss_cons (ps_while PassesOwn.never (pt_cmpR (op_neD hr.units) (pv 2) (pe_lstN pa_nil) (nomark _)) (pss_cons (ps_set (i := 4) nd rfl (Or.inr rfl) (pe_lstN (pa_cons (pe_ix ix_list (pv 2) pe_int (fun _ _ => rfl)) pa_nil)))
    (pss_cons (ps_for PassesOwn.never rfl (pi_range1 rfl gRa (pa_cons (pe_callB call_len_seq (by rfl) gLe (by decide +kernel) (pa_cons (pv 2) pa_nil)) pa_nil)) (pg_name (i := 5) nd rfl (Or.inl rfl)) (pss_cons (ps_set (i := 6) nd rfl (Or.inl rfl) (pe_lstN pa_nil))
    (pss_cons (ps_for PassesOwn.never rfl (pi_list (pe_dget (units1 hr) (pv 0) pe_str (fun _ _ => rfl))) (pg_tup rfl (pgs_cons (pg_name (i := 7) nd rfl (Or.inl rfl)) (pgs_cons (pg_name (i := 8) nd rfl (Or.inl rfl)) pgs_nil))) (pss_cons (ps_if ((pw_and (pt_cmpR op_in_seq (pv 7) (pv 4) (by with_unfolding_all rfl)) (pw_and (pt_cmpR op_in_seq (pv 8) (pv 2) (by with_unfolding_all rfl)) (pw_and1 (pt_cmpR op_notIn_seq (pv 8) (pe_op op_cat (pv 4) (pv 6)) (by with_unfolding_all rfl)))))).pt (pss_one (ps_expr (pe_bm PySem.F.plainAttrs_list PySem.F.slot_list_append PySem.F.type_list_append mt_append (pv 6) (pa_cons (pv 8) pa_nil)))) pss_nil)
    (pss_one (ps_if ((pw_and (pt_cmpR op_in_seq (pv 8) (pv 4) (by with_unfolding_all rfl)) (pw_and (pt_cmpR op_in_seq (pv 7) (pv 2) (by with_unfolding_all rfl)) (pw_and1 (pt_cmpR op_notIn_seq (pv 7) (pe_op op_cat (pv 4) (pv 6)) (by with_unfolding_all rfl)))))).pt (pss_one (ps_expr (pe_bm PySem.F.plainAttrs_list PySem.F.slot_list_append PySem.F.type_list_append mt_append (pv 6) (pa_cons (pv 7) pa_nil)))) pss_nil))))
    (pss_cons (ps_set (i := 4) nd rfl (Or.inr rfl) (pe_op op_cat (pv 4) (pv 6)))
    (pss_one (ps_if (pt_cmpR (op_eqD hr.units) (pv 6) (pe_lstN pa_nil) (nomark _)) (pss_one ps_break) pss_nil))))))
    (pss_cons (ps_expr (pe_bm PySem.F.plainAttrs_list PySem.F.slot_list_append PySem.F.type_list_append mt_append (pv 3) (pa_cons (pe_callTy call_tuple_of (by rfl) gTu (by decide +kernel) (pa_cons (pe_callB cr_sortedS (by rfl) gSo (by decide +kernel) (pa_cons (pv 4) pa_nil)) pa_nil)) pa_nil)))
    (pss_one (ps_setLc (i := 2) (own := [("_law_place", 9)]) (g := gName 9) (tt := tTest (tOp (rIn K true) (tVar 9) (tVar 4))) rfl nd rfl rfl (sw_true rfl rfl rfl (by decide +kernel)) (pi_list (pv 2)) (blkOk_by (own := [("_law_place", 9)]) (N := NLo) (sc := defScope sLots) (by decide +kernel)) (fun _ _ _ _ _ => (pg_name (i := 9) nd rfl (Or.inl rfl))) (fun _ _ _ _ _ => (pts_one (pt_cmpR op_notIn_seq (pv 9) (pv 4) (by with_unfolding_all rfl)))) (fun _ _ _ _ _ => (pv 9))))))))
    (pss_one (ps_ret (pe_callB (OwP.cr_sortTpN hr.units) (by rfl) gSo (by decide +kernel) (pa_cons (pv 3) pa_nil)))))), ?_⟩)
  · obtain ⟨d, g, ks, zs, rfl, _⟩ := h
    rfl
  · obtain ⟨d, g, ks, zs, rfl, pl, hg, nam, knd, k1, k40, zl, hin, k⟩ := h
    obtain ⟨⟨kp, tp, h1, h2, h3⟩, ta⟩ := pl
    rw [show L2.start NLo [V.ref d, V.ref g] = [some (.ref d), some (.ref g), none, none, none, none, none, none, none, none] from rfl]
    walk_at "rd"
    refine Rd.par2 ?_
    walk_at "rd"
    refine Rd.lcm' ?_
    unfold iList tDGet
    walk_at "rd"
    refine ⟨d, _, rfl, (pl_get h1).1, kp, rfl, ⟨_, SqL.of h2⟩, fun D0 hD0 => ?_⟩
    refine lc_strs (walk_list (xs := ks.map V.str)) (fun _ => true) hD0 (by omega) (fun H' e => ex_l e (SqL.of h2)) (fun x hx Ha B ea hB => ?_) (fun Hb eb lb => ?_)
    · show _ ∧ _
      refine ⟨rfl, ?_⟩
      walk_at "rd"
      refine ⟨g, [], rfl, Or.inr (SqT.of (ea _ _ hg)), rfl, rfl, _, rfl, ?_⟩
      refine hB _ _ (Ex.refl _) fun _ R hR => ?_
      walk_at "rd"
      exact hR _ (Ex.refl _)
    · walk_at "rd"
      have ek : ks.filter (fun _ => true) = ks := List.filter_eq_self.mpr fun _ _ => rfl
      rw [ek] at lb
      refine ⟨small64 (n := 0) (by decide), fun F hF _ => ?_⟩
      have eF : Ex Hb (upd Hb F (.lst [])) := Ex.new hF
      have F1 : (upd Hb F (.lst [])) F = some (.lst (tmk [])) := upd_same
      have lF := eF _ _ lb
      have hF0 : H F = none := ex_none eb hF
      have e1 : Ex H (upd Hb F (.lst [])) := eb.trans eF
      have DF : D0 ≠ F := fun e => by
        rw [e] at lb
        rw [lb] at hF
        exact nomatch hF
      generalize upd Hb F (.lst []) = H1 at F1 lF e1
      clear eF lb hF eb
      walk_at "rd"
      refine ⟨_, _, rfl, ?_⟩
      dsimp only [List.set_cons_succ, List.set_cons_zero]
      walk_at "rd"
      refine ⟨fun m σ H' => ∃ (D : Addr) (L : List Str) (fs : List (Addr × List Str)) (x4 x5 x6 x7 x8 : Option V), σ = [some (.ref d), some (.ref g), some (.ref D), some (.ref F), x4, x5, x6, x7, x8, none] ∧ Ex H H' ∧ H' D = some (.lst (L.map V.str)) ∧ D ≠ F ∧ H' F = some (.lst (tmk fs)) ∧ (∀ p ∈ fs, H' p.1 = some (.tup (p.2.map V.str))) ∧ (∀ p ∈ fs, 1 ≤ p.2.length) ∧
        L.Sublist ks ∧ fs.length + L.length ≤ ks.length ∧ LotsI ks (zs.map (·.2)) L fs ∧ m = L.length, ⟨_, D0, ks, [], none, none, none, none, none, rfl, e1, lF, DF, F1, (fun _ h => nomatch h), (fun _ h => nomatch h), List.Sublist.refl _, Nat.le_of_eq (Nat.zero_add _), .start hin, rfl⟩, ?_⟩
      rintro m σ H' ⟨D, L, fs, x4, x5, x6, x7, x8, rfl, e2, lD, nDF, lF2, tp2, ne2, sL, cl, ln, rfl⟩
      walk_at "rd"
      have namL : ∀ x ∈ L, nameB x = true := fun x hx => nam x (sL.subset hx)
      have lL : L.length ≤ 40 := Nat.le_trans sL.length_le k40
      refine ⟨small64 (n := 0) (by decide), fun p hp _ => ⟨_, .list [], dpL ((Ex.new hp) _ _ lD), .lst (SqL.of upd_same) .nil, shaped_lst fun x hx => name_ok (namL x hx), by decide +kernel, _, rfl, ?_⟩⟩
      rw [eqv_nilS]
      have ep : Ex H' (upd H' p (.lst [])) := Ex.new hp
      have e3 : Ex H (upd H' p (.lst [])) := e2.trans ep
      have lD3 := ep _ _ lD
      have lF3 := ep _ _ lF2
      have tp3 : ∀ q ∈ fs, (upd H' p (.lst [])) q.1 = some (.tup (q.2.map V.str)) := fun q hq => ep _ _ (tp2 q hq)
      generalize upd H' p (.lst []) = H3 at e3 lD3 lF3 tp3 ⊢
      clear ep hp tp2 lF2 lD e2
      by_cases hL : L = []
      · subst hL
        rw [if_neg (by decide)]
        walk_at "rd"
        have fl : fs.length ≤ 40 := by simp at cl; omega
        refine ⟨F, fs, rfl, SqL.of lF3, fun q hq => SqT.of (tp3 q hq), ne2, by omega, fun q hq => ?_⟩
        have pm := List.mergeSort_perm fs OwP.le
        refine k q _ (fs.mergeSort OwP.le) (e3.trans (Ex.new hq)) upd_same (fun p hp => (Ex.new hq) _ _ (tp3 p (pm.mem_iff.mp hp))) (by rw [pm.length_eq]; exact fl) ⟨fun p hp => ln.ok p (pm.mem_iff.mp hp), fun y hy => ?_, fun p hp => ln.sub p (pm.mem_iff.mp hp)⟩
        rcases ln.all y hy with z | ⟨p, hp, z⟩
        · exact nomatch z
        · exact ⟨p, pm.mem_iff.mpr hp, z⟩
      · have L1 : 1 ≤ L.length := List.length_pos_iff.mpr hL
        have em : L.isEmpty = false := by
          cases L with
          | nil => exact absurd rfl hL
          | cons _ _ => rfl
        rw [em, if_pos (by decide)]
        refine ⟨_, fun σ' H' h => h, ?_⟩
        obtain ⟨x0L, a0⟩ := first_in L1
        walk_at "rd"
        refine Rd.ixl (SqL.of lD3) a0 ?_
        walk_at "rd"
        refine ⟨small64 (n := 1) (by decide), fun Al hA _ => ?_⟩
        have eA : Ex H3 (upd H3 Al (.lst [V.str (L.getD 0 "")])) := Ex.new hA
        have A4 : (upd H3 Al (.lst [V.str (L.getD 0 "")])) Al = some (.lst ([L.getD 0 ""].map V.str)) := upd_same
        generalize upd H3 Al (.lst [V.str (L.getD 0 "")]) = H4 at eA A4
        walk_at "rd"
        dsimp only [List.set_cons_succ, List.set_cons_zero]
        with_reducible refine Rd.for' (Rd.irng' ?_)
        walk_at "rd"
        have lD4 := eA _ _ lD3
        refine ⟨D, _, rfl, Or.inl (SqL.of lD4), ?_⟩
        rw [List.length_map]
        walk_at "rd"
        refine ⟨_, rfl, by omega, by omega, ?_⟩
        have eT : Int.toNat ((L.length : Nat) : Int) = L.length := rfl
        have e4 := e3.trans eA
        refine for_it walk_range (fun i σ H' => ∃ (Al : Addr) (lot : List Str) (x5 x6 x7 x8 : Option V), σ = [some (.ref d), some (.ref g), some (.ref D), some (.ref F), some (.ref Al), x5, x6, x7, x8, none] ∧ Ex H4 H' ∧ H' Al = some (.lst (lot.map V.str)) ∧ LotI (zs.map (·.2)) L (L.getD 0 "") lot ∧ i + 1 ≤ lot.length)
          ⟨Al, [L.getD 0 ""], _, _, _, _, rfl, Ex.refl _, A4, ⟨by simp, fun y hy => by rw [List.mem_singleton.mp hy]; exact x0L, List.mem_singleton.mpr rfl, fun y hy => by rw [List.mem_singleton.mp hy]; exact .here⟩, Nat.le_refl _⟩ (fun _ _ _ _ _ => trivial) (fun i z σ Ha Hb hi hP hY => ?_) (fun σ Ha hP => ?_)
        · obtain ⟨Al, lot, x5, x6, x7, x8, rfl, ea, hAl, LI, li⟩ := hP
          obtain ⟨rfl, rfl⟩ := hY
          rw [eT] at hi
          have lotL := full_len LI
          walk_at "rd"
          refine ⟨small64 (n := 0) (by decide), fun M hM _ => ?_⟩
          have eM : Ex Hb (upd Hb M (.lst [])) := Ex.new hM
          have M1 : (upd Hb M (.lst [])) M = some (.lst (([] : List Str).map V.str)) := upd_same
          generalize upd Hb M (.lst []) = H5 at eM M1
          walk_at "rd"
          dsimp only [List.set_cons_succ, List.set_cons_zero]
          with_reducible refine Rd.for' ?_
          have e5 : Ex H4 H5 := ea.trans eM
          have e05 : Ex H H5 := e4.trans e5
          refine ⟨_, rfl, d, _, rfl, (pl_get (e05 _ _ h1)).2, tp, rfl, ⟨_, SqL.of (e05 _ _ h3)⟩, ?_⟩
          have zb : zs.length = (zs.map (·.2)).length := (List.length_map ..).symm
          refine for_it (walk_list (xs := rf zs)) (fun j σ H' => ∃ (more : List Str) (x7 x8 : Option V), σ = [some (.ref d), some (.ref g), some (.ref D), some (.ref F), some (.ref Al), some (.int (0 + (i : Nat))), some (.ref M), x7, x8, none] ∧ Ex Hb H' ∧ H' M = some (.lst (more.map V.str)) ∧ MoreI (zs.map (·.2)) L (L.getD 0 "") lot more j)
            ⟨[], _, _, rfl, eM, M1, MoreI.start LI⟩ (fun j σ Hc _ hP => ?_) (fun j z σ Hc Hd hj hP hY => ?_) (fun σ Hc hP => ?_)
          · obtain ⟨_, _, _, _, e6, _⟩ := hP
            exact ex_l ((e4.trans ea).trans e6) (SqL.of h3)
          · obtain ⟨more, x7, x8, rfl, e6, m6, MI⟩ := hP
            obtain ⟨rfl, hz⟩ := hY
            rw [List.getElem?_map] at hz
            cases ht : zs[j]? with
            | none => rw [ht] at hz; exact nomatch hz
            | some t =>
              rw [ht] at hz
              cases hz
              have et : (zs.map (·.2))[j]? = some (t.2.1, t.2.2) := by rw [List.getElem?_map, ht]; rfl
              have tm := List.mem_of_getElem? et
              refine ⟨t.1, [.str t.2.1, .str t.2.2], rfl, SqT.of (ta.ex ((e4.trans ea).trans e6) t (List.mem_of_getElem? ht)), rfl, .str t.2.1, [.str t.2.2], rfl, ?_⟩
              walk_at "rd"
              refine ⟨.str t.2.2, [], rfl, ?_⟩
              walk_at "rd"
              refine ⟨rfl, ?_⟩
              dsimp only [List.set_cons_succ, List.set_cons_zero]
              refine lots_if (i := 7) (j := 8) rfl rfl rfl rfl rfl e6 hM hAl (ea _ _ lD4) m6 MI lL (by omega) (fun h => .on (LI.rch _ h) (ends_iff.mpr (.inl tm))) (fun m1 H1' E1 M1' MI1 f1 s1 => ?_)
              refine lots_if (i := 8) (j := 7) rfl rfl rfl rfl rfl E1 hM hAl (ea _ _ lD4) M1' MI1 lL (by omega) (fun h => .on (LI.rch _ h) (ends_iff.mpr (.inr tm))) (fun m2 H2' E2 M2' MI2 f2 s2 => ?_)
              exact ⟨m2, _, _, rfl, E2, M2', MI2.step et (fun p q => s2 _ (f1 p q)) f2⟩
          · obtain ⟨more, x7, x8, rfl, e6, m6, MI⟩ := hP
            rw [List.length_map, zb] at MI
            have ml : more.length ≤ 40 := Nat.le_trans (nodup_le more L (List.nodup_append.mp MI.nd).2.1 MI.sub) lL
            walk_at "rd"
            refine ⟨Al, M, _, _, rfl, rfl, e6 _ _ hAl, m6, by rw [List.length_map, List.length_map, sizeLine_eq]; omega, fun S hS => ?_⟩
            rw [← List.map_append]
            have eS : Ex Hc (upd Hc S (.lst ((lot ++ more).map V.str))) := Ex.new hS
            have s7 : (upd Hc S (.lst ((lot ++ more).map V.str))) S = some (.lst ((lot ++ more).map V.str)) := upd_same
            have m7 := eS _ _ m6
            have e7 : Ex H4 (upd Hc S (.lst ((lot ++ more).map V.str))) := (ea.trans e6).trans eS
            generalize upd Hc S (.lst ((lot ++ more).map V.str)) = H7 at s7 m7 e7 ⊢
            have nSF : S ≠ F := fun e => by
              rw [e, e6 _ _ (ea _ _ (eA _ _ lF3))] at hS
              exact nomatch hS
            clear eS hS m6 hM M1 eM e05 e5
            walk_at "rd"
            dsimp only [List.set_cons_succ, List.set_cons_zero]
            walk_at "rd"
            refine ⟨small64 (n := 0) (by decide), fun p hp _ => ⟨_, .list [], dpL ((Ex.new hp) _ _ m7), .lst (SqL.of upd_same) .nil, shaped_lst fun x hx => name_ok (namL x (MI.sub x hx)), by decide +kernel, _, rfl, ?_⟩⟩
            rw [eqv_nilS]
            have ep : Ex H7 (upd H7 p (.lst [])) := Ex.new hp
            have s8 := ep _ _ s7
            have e8 := e7.trans ep
            generalize upd H7 p (.lst []) = H8 at s8 e8 ⊢
            cases more with
            | cons y ys =>
              rw [if_neg (show ¬ (y :: ys).isEmpty = true from Bool.false_ne_true)]
              refine ⟨S, lot ++ (y :: ys), _, _, _, _, rfl, e8, s8, MI.grow LI, ?_⟩
              rw [List.length_append, List.length_cons]
              omega
            | nil =>
              rw [if_pos (show ([] : List Str).isEmpty = true from rfl)]
              rw [List.append_nil] at s8
              have CL := MI.closed
              walk_at "rd"
              have F8 := e8 _ _ (eA _ _ lF3)
              have D8 := e8 _ _ lD4
              have tp8 : ∀ q ∈ fs, H8 q.1 = some (.tup (q.2.map V.str)) := fun q hq => (eA.trans e8) _ _ (tp3 q hq)
              have E8 : Ex H H8 := e4.trans e8
              refine ⟨_, rfl, .inl ⟨rfl, _, SqL.of F8⟩, ?_⟩
              walk_at "rd"
              refine ⟨S, lot, rfl, SqL.of s8, by omega, fun ys q pm so hq => ?_⟩
              walk_at "rd"
              refine ⟨q, _, rfl, Or.inl ⟨SqL.of upd_same, fun T hT => ?_⟩⟩
              have e9 : Ex H8 (upd (upd H8 q (.lst (ys.map V.str))) T (.tup (ys.map V.str))) := (Ex.new hq).trans (Ex.new hT)
              have t9 : (upd (upd H8 q (.lst (ys.map V.str))) T (.tup (ys.map V.str))) T = some (.tup (ys.map V.str)) := upd_same
              show tNil _ (upd (upd H8 q (.lst (ys.map V.str))) T (.tup (ys.map V.str))) _
              generalize upd (upd H8 q (.lst (ys.map V.str))) T (.tup (ys.map V.str)) = H9 at e9 t9 ⊢
              have F9 := e9 _ _ F8
              have D9 := e9 _ _ D8
              have s9 := e9 _ _ s8
              have tp9 : ∀ q ∈ fs, H9 q.1 = some (.tup (q.2.map V.str)) := fun q hq => e9 _ _ (tp8 q hq)
              have E9 := E8.trans e9
              walk_at "rd"
              have fl : fs.length ≤ 40 := by omega
              refine ⟨F, tmk fs, .ref T, rfl, rfl, F9, sz_lt (by unfold tmk; rw [List.length_map]; omega), ?_⟩
              have nTF : T ≠ F := fun e => by
                rw [e, F9] at t9
                exact nomatch t9
              have npF : ∀ q ∈ fs, q.1 ≠ F := fun q hq e => by
                have z := tp9 q hq
                rw [e, F9] at z
                exact nomatch z
              have E10 : Ex H (upd H9 F (.lst (tmk fs ++ [V.ref T]))) := E9.mut hF0
              have F10 : (upd H9 F (.lst (tmk fs ++ [V.ref T]))) F = some (.lst (tmk (fs ++ [(T, ys)]))) := by
                rw [upd_same]
                unfold tmk
                rw [List.map_append]
                rfl
              have D10 : (upd H9 F (.lst (tmk fs ++ [V.ref T]))) D = some (.lst (L.map V.str)) := (upd_ne nDF).trans D9
              have s10 : (upd H9 F (.lst (tmk fs ++ [V.ref T]))) S = some (.lst (lot.map V.str)) := (upd_ne nSF).trans s9
              have tp10 : ∀ q ∈ fs ++ [(T, ys)], (upd H9 F (.lst (tmk fs ++ [V.ref T]))) q.1 = some (.tup (q.2.map V.str)) := fun q hq => by
                rcases List.mem_append.mp hq with h | h
                · exact (upd_ne (npF q h)).trans (tp9 q h)
                · rw [List.mem_singleton.mp h]
                  exact (upd_ne nTF).trans t9
              generalize upd H9 F (.lst (tmk fs ++ [V.ref T])) = H10 at E10 F10 D10 s10 tp10 ⊢
              walk_at "rd"
              refine Rd.lcm' ?_
              walk_at "rd"
              refine ⟨D, rfl, ⟨_, SqL.of D10⟩, fun D2 hD2 => ?_⟩
              refine lc_strs (walk_list (xs := L.map V.str)) (fun x => !decide (x ∈ lot)) hD2 (by omega) (fun H' e => ex_l e (SqL.of D10)) (fun x hx Ha B ea hB => ?_) (fun H11 e11 l11 => ?_)
              · show _ ∧ _
                refine ⟨rfl, ?_⟩
                walk_at "rd"
                refine ⟨S, _, rfl, Or.inl (SqL.of (ea _ _ s10)), rfl, flat_strs lot, ?_⟩
                rw [if_pos rfl, inV_strs]
                refine ⟨_, rfl, ?_⟩
                refine hB _ _ (Ex.refl _) fun _ R hR => ?_
                walk_at "rd"
                exact hR _ (Ex.refl _)
              · walk_at "rd"
                have lt : (L.filter fun x => !decide (x ∈ lot)).length < L.length := List.length_filter_lt_length_iff_exists.mpr ⟨_, x0L, by rw [decide_eq_true LI.at_]; decide⟩
                refine ⟨_, lt, D2, L.filter fun x => !decide (x ∈ lot), fs ++ [(T, ys)], _, _, _, _, _, rfl, E10.trans e11, l11, fun e => ?_, e11 _ _ F10, fun q hq => e11 _ _ (tp10 q hq), fun q hq => ?_, List.filter_sublist.trans sL, ?_, ?_, rfl⟩
                · rw [e, F10] at hD2
                  exact nomatch hD2
                · rcases List.mem_append.mp hq with h | h
                  · exact ne2 q h
                  · rw [List.mem_singleton.mp h]
                    show 1 ≤ ys.length
                    rw [pm.length_eq]
                    omega
                · rw [List.length_append, List.length_singleton]
                  omega
                · exact ln.step (fun y hy => sL.subset hy) LI CL so pm
        · obtain ⟨Al, lot, x5, x6, x7, x8, rfl, ea, hAl, LI, li⟩ := hP
          rw [eT] at li
          have lotL := full_len LI
          omega
end
end OwW
/-! rotations of rows of different names, and the least of them. -/
namespace OwW
open PySem PySem.Spec PyProof.Rows PySem.W L2 L2H OwX Rd Evl
def rotL (r : List Str) (k : Nat) : List Str := r.drop k ++ r.take k
theorem rot_split (A B : List Str) (m : Str) : rotL (A ++ m :: B) A.length = m :: (B ++ A) := by simp [rotL]
theorem split_at {r : List Str} {k : Nat} (h : k < r.length) : r = r.take k ++ r.getD k "" :: r.drop (k + 1) := by
  have e : r.getD k "" = r[k] := by rw [List.getD_eq_getElem?_getD, List.getElem?_eq_getElem h]; rfl
  rw [e, List.getElem_cons_drop h, List.take_append_drop]
theorem rot_at {r : List Str} {k : Nat} (h : k < r.length) : rotL r k = r.getD k "" :: (r.drop (k + 1) ++ r.take k) := by
  have z := rot_split (r.take k) (r.drop (k + 1)) (r.getD k "")
  rw [← split_at h, List.length_take, Nat.min_eq_left (Nat.le_of_lt h)] at z
  exact z
theorem rot_back {r : List Str} {k : Nat} (h : k < r.length) : rotL r.reverse (r.length - 1 - k) = r.getD k "" :: (r.drop (k + 1) ++ r.take k).reverse := by
  have z := rot_split (r.drop (k + 1)).reverse (r.take k).reverse (r.getD k "")
  have e : (r.drop (k + 1)).reverse ++ r.getD k "" :: (r.take k).reverse = r.reverse := by
    conv => rhs; rw [split_at h]
    simp
  rw [e, List.length_reverse, List.length_drop, ← List.reverse_append] at z
  rw [← z]
  congr 1
  omega
theorem mem_getD {r : List Str} {k : Nat} (h : k < r.length) : r.getD k "" ∈ r := by
  rw [List.getD_eq_getElem?_getD, List.getElem?_eq_getElem h]
  exact List.getElem_mem h
/-- the place of the least -/
def MinAt (r : List Str) (k : Nat) : Prop := k < r.length ∧ ∀ x ∈ r, OwL2.lt x (r.getD k "") = false
theorem MinAt.uniq {r : List Str} (nd : r.Nodup) {k j : Nat} (h : MinAt r k) (g : MinAt r j) : k = j := by
  have e : r.getD k "" = r.getD j "" := Classical.byContradiction fun n => by
    have z := lt_tot (g.2 _ (mem_getD h.1)) n
    rw [h.2 _ (mem_getD g.1)] at z
    exact nomatch z
  rw [List.getD_eq_getElem?_getD, List.getD_eq_getElem?_getD, List.getElem?_eq_getElem h.1, List.getElem?_eq_getElem g.1] at e
  exact (List.getElem?_inj h.1 nd).mp (by rw [List.getElem?_eq_getElem h.1, List.getElem?_eq_getElem g.1]; exact congrArg some e)
theorem MinAt.rev {r : List Str} {k : Nat} (h : MinAt r k) : MinAt r.reverse (r.length - 1 - k) := by
  have l := h.1
  have e : r.reverse.getD (r.length - 1 - k) "" = r.getD k "" := by
    rw [List.getD_eq_getElem?_getD, List.getD_eq_getElem?_getD, List.getElem?_reverse (by omega)]
    congr 2
    omega
  refine ⟨by rw [List.length_reverse]; omega, fun x hx => ?_⟩
  rw [e]
  exact h.2 x (List.mem_reverse.mp hx)
theorem dl_ne {a b : Str} (n : a ≠ b) (xs ys : List PyData) : dataLt (.tuple (.str a :: xs)) (.tuple (.str b :: ys)) = OwL2.lt a b := by
  rw [dataLt_tuple, dataLt_cons rfl, OwL2.eqv_str, if_neg (by simpa using n), dataLt_str]
  rfl
theorem dl_eq (a : Str) (xs ys : List PyData) : dataLt (.tuple (.str a :: xs)) (.tuple (.str a :: ys)) = dataLt (.tuple xs) (.tuple ys) := by
  rw [dataLt_tuple, dataLt_cons rfl, OwL2.eqv_str, if_pos (by simp), dataLt_tuple]
def hdD : PyData → Str
  | .tuple (.str s :: _) => s
  | .str s => s
  | _ => ""
def rowD (l : List Str) : PyData := .tuple (l.map PyData.str)
theorem hd_row {r : List Str} {k : Nat} (h : k < r.length) : hdD (rowD (rotL r k)) = r.getD k "" := by
  rw [rot_at h]
  rfl
theorem lt_neg_tr {x y z : Str} (h : OwL2.lt y x = false) (g : OwL2.lt z y = false) : OwL2.lt z x = false := by
  by_cases c : x = y
  · rw [c]; exact g
  · by_cases d : z = y
    · rw [d]; exact h
    · have h1 := lt_tot h (fun e => c e.symm)
      have h2 := lt_tot g d
      cases e : OwL2.lt z x with
      | false => rfl
      | true =>
        have w := lt_tr (lt_tr h1 h2) e
        rw [lt_irr] at w
        exact nomatch w
theorem lt_asym {x y : Str} (h : OwL2.lt x y = true) : OwL2.lt y x = false := by
  cases e : OwL2.lt y x with
  | false => rfl
  | true =>
    have w := lt_tr h e
    rw [lt_irr] at w
    exact nomatch w
/-- the least of all rotations begins with the least -/
theorem least_rot {r : List Str} (nd : r.Nodup) {xs : List V} {v : V} {d : PyData} (L : OwMn.Least xs ((List.range r.length).map fun i => rowD (rotL r i)) v d) : ∃ k, MinAt r k ∧ xs[k]? = some v ∧ d = rowD (rotL r k) := by
  obtain ⟨k, h1, h2⟩ := L.at_
  have hk : k < r.length := Classical.byContradiction fun n => by
    rw [List.getElem?_eq_none (by simp; omega)] at h2
    exact nomatch h2
  have e2 : d = rowD (rotL r k) := by
    rw [List.getElem?_map, List.getElem?_range hk] at h2
    exact (Option.some.inj h2).symm
  refine ⟨k, ⟨hk, fun x hx => ?_⟩, h1, e2⟩
  obtain ⟨j, hj, ej⟩ := List.getElem_of_mem hx
  have z := L.min (fun x y => OwL2.lt (hdD x) (hdD y)) (fun x hx y hy => ?_) (fun x _ y _ h => lt_asym h) (fun x _ y _ z _ h g => lt_neg_tr h g) (rowD (rotL r j)) (List.mem_map.mpr ⟨j, List.mem_range.mpr hj, rfl⟩)
  · rw [e2] at z
    rw [hd_row hk, hd_row hj] at z
    rw [List.getD_eq_getElem?_getD, List.getElem?_eq_getElem hj] at z
    rw [← ej]
    exact z
  · obtain ⟨a, ha, rfl⟩ := List.mem_map.mp hx
    obtain ⟨b, hb, rfl⟩ := List.mem_map.mp hy
    have ha := List.mem_range.mp ha
    have hb := List.mem_range.mp hb
    rw [hd_row ha, hd_row hb]
    by_cases c : a = b
    · subst c
      rw [lt_irr]
      have q : ∀ l : List Str, dataLt (rowD l) (rowD l) = false := fun l => by
        unfold rowD
        induction l with
        | nil => rw [dataLt_tuple]; rfl
        | cons s l ih => rw [List.map_cons, dl_eq, ih]
      exact q _
    · unfold rowD
      rw [rot_at ha, rot_at hb, List.map_cons, List.map_cons]
      refine dl_ne (fun e => c ?_) _ _
      rw [List.getD_eq_getElem?_getD, List.getD_eq_getElem?_getD, List.getElem?_eq_getElem ha, List.getElem?_eq_getElem hb] at e
      exact (List.getElem?_inj ha nd).mp (by rw [List.getElem?_eq_getElem ha, List.getElem?_eq_getElem hb]; exact congrArg some e)
/-- the least of names -/
theorem least_name {r : List Str} {xs : List V} {v : V} {d : PyData} (hx : xs = r.map V.str) (L : OwMn.Least xs (r.map PyData.str) v d) : ∃ k, MinAt r k ∧ v = .str (r.getD k "") := by
  subst hx
  obtain ⟨k, h1, h2⟩ := L.at_
  have hk : k < r.length := Classical.byContradiction fun n => by
    rw [List.getElem?_eq_none (by simp; omega)] at h2
    exact nomatch h2
  have g : r.getD k "" = r[k] := by rw [List.getD_eq_getElem?_getD, List.getElem?_eq_getElem hk]; rfl
  rw [List.getElem?_map, List.getElem?_eq_getElem hk] at h1 h2
  have e1 : V.str r[k] = v := Option.some.inj h1
  have e2 : PyData.str r[k] = d := Option.some.inj h2
  refine ⟨k, ⟨hk, fun x hx => ?_⟩, by rw [g]; exact e1.symm⟩
  have z := L.min (fun x y => OwL2.lt (hdD x) (hdD y)) (fun x hx y hy => ?_) (fun x _ y _ h => lt_asym h) (fun x _ y _ z _ h g => lt_neg_tr h g) (.str x) (List.mem_map.mpr ⟨x, hx, rfl⟩)
  · rw [← e2] at z
    rw [g]
    exact z
  · obtain ⟨a, ha, rfl⟩ := List.mem_map.mp hx
    obtain ⟨b, hb, rfl⟩ := List.mem_map.mp hy
    rw [dataLt_str]
    rfl
/-- the way round that the second place decides -/
def turnL (l : List Str) : List Str := if OwL2.lt (l.getD 1 "") (l.getD (l.length - 1) "") = true then l else l.take 1 ++ (l.drop 1).reverse
/-- the lesser of the two ways round a ring -/
theorem ring_min {r : List Str} (nd : r.Nodup) (h3 : 3 ≤ r.length) {k j : Nat} (hk : MinAt r k) (hj : MinAt r.reverse j) : (if dataLt (rowD (rotL r.reverse j)) (rowD (rotL r k)) = true then rotL r.reverse j else rotL r k) = turnL (rotL r k) := by
  have ej : j = r.length - 1 - k := hj.uniq ((List.reverse_perm r).symm.nodup nd) hk.rev
  rw [ej, rot_back hk.1, rot_at hk.1]
  have nl : (r.drop (k + 1) ++ r.take k).length = r.length - 1 := by
    have := hk.1
    rw [List.length_append, List.length_drop, List.length_take]
    omega
  have ndr : (r.drop (k + 1) ++ r.take k).Nodup := by
    have z : (r.take k ++ r.getD k "" :: r.drop (k + 1)).Nodup := by rw [← split_at hk.1]; exact nd
    have z2 : (r.getD k "" :: (r.drop (k + 1) ++ r.take k)).Nodup := (List.perm_append_comm.trans (by rw [List.cons_append])).nodup z
    exact (List.nodup_cons.mp z2).2
  generalize r.drop (k + 1) ++ r.take k = l at nl ndr
  generalize r.getD k "" = m
  obtain ⟨a, t, rfl⟩ : ∃ a t, l = a :: t := by
    cases l with
    | nil => simp at nl; omega
    | cons a t => exact ⟨a, t, rfl⟩
  obtain ⟨t', b, rfl⟩ : ∃ t' b, t = t' ++ [b] := by
    rcases List.eq_nil_or_concat t with rfl | ⟨t', b, rfl⟩
    · simp at nl; omega
    · exact ⟨t', b, List.concat_eq_append⟩
  have nab : a ≠ b := fun e => (List.nodup_cons.mp ndr).1 (by rw [e]; simp)
  have er : (a :: (t' ++ [b])).reverse = b :: (a :: t').reverse := by simp
  have g1 : (m :: a :: (t' ++ [b])).getD 1 "" = a := rfl
  have g2 : (m :: a :: (t' ++ [b])).getD ((m :: a :: (t' ++ [b])).length - 1) "" = b := by
    rw [List.getD_eq_getElem?_getD]
    have e : (m :: a :: (t' ++ [b])).length - 1 = (m :: a :: t').length := by simp
    rw [e, show m :: a :: (t' ++ [b]) = (m :: a :: t') ++ [b] from rfl, List.getElem?_append_right (Nat.le_refl _)]
    simp
  unfold turnL rowD
  rw [g1, g2, er, List.map_cons, List.map_cons, List.map_cons, List.map_cons, dl_eq, dl_ne (fun e => nab e.symm)]
  have e3 : (m :: a :: (t' ++ [b])).take 1 ++ ((m :: a :: (t' ++ [b])).drop 1).reverse = m :: b :: (a :: t').reverse := by
    rw [← er]
    rfl
  rw [e3]
  by_cases c : OwL2.lt a b = true
  · rw [if_pos c, if_neg (by rw [lt_asym c]; decide)]
  · rw [if_neg c, if_pos (lt_tot (Bool.eq_false_iff.mpr c) nab)]
end OwW

/-! t[::-1] of a tuple. -/
namespace OwRv
open PySem PySem.Spec PyProof.Rows HT L2
section
variable {prog : Program} {w : World} {A : Around} {E : Value → Shared → Prop} {s : Shared}
theorem places_back (n : Nat) : Builtin.Slice.slicePlaces ((n : Int) - 1) (-1) (-1) = n := by
  unfold Builtin.Slice.slicePlaces
  have h1 : ¬ ((-1 : Int) > 0) := by decide
  simp only [h1, if_false]
  by_cases h : (n : Int) - 1 > -1
  · rw [if_pos h, show (- -1 : Int) = 1 by decide, Int.ediv_one]
    omega
  · rw [if_neg h]
    omega
theorem applied_back {sl : Addr} {vs : Value} {n : Nat} {Q : Int × Int × Nat → Shared → Prop} (hs : s.heap.IsSliceOf sl .none .none vs) (ps : IsPart vs (some (-1)))
    (h : Q ((n : Int) - 1, -1, n) s) : wpAny (model prog w) A (Builtin.Slice.sliceApplied (.ref sl) (pure (n : Int))) Q E s := by
  obtain ⟨os, hos, hcs, hds⟩ := id hs
  unfold Builtin.Slice.sliceApplied Builtin.Slice.sliceFields
  refine wpAny_bind (wpAny_bind (wpAny_field hos hds (x := .none) rfl (wpAny_bind (wpAny_field hos hds (x := .none) rfl (wpAny_bind (wpAny_field hos hds (x := vs) rfl (wpAny_pure ?_)))))))
  refine wpAny_bind (slicePart_ ps ?_)
  show wpAny _ _ (if ((-1 : Int) == 0) = true then _ else _) _ _ s
  rw [if_neg (by decide)]
  refine wpAny_bind (slicePart_none (wpAny_bind (slicePart_none (wpAny_bind (wpAny_pure ?_)))))
  show wpAny _ _ (pure ((n : Int) - 1, (-1 : Int), Builtin.Slice.slicePlaces ((n : Int) - 1) (-1) (-1))) _ _ s
  rw [places_back]
  exact wpAny_pure h
theorem pick_back (xs : Array Value) : ((List.range xs.size).filterMap fun (m : Nat) => xs[(((xs.size : Nat) : Int) - 1 + (m : Int) * (-1)).toNat]?).toArray = xs.toList.reverse.toArray := by
  have e : (fun (m : Nat) => xs[(((xs.size : Nat) : Int) - 1 + (m : Int) * (-1)).toNat]?) = (fun i => xs[i]?) ∘ fun (m : Nat) => (((xs.size : Nat) : Int) - 1 + (m : Int) * (-1)).toNat := rfl
  have f : (List.range xs.size).map (fun (m : Nat) => (((xs.size : Nat) : Int) - 1 + (m : Int) * (-1)).toNat) = (List.range xs.size).map fun m => xs.size - 1 - m := List.map_congr_left fun m hm => by
    have := List.mem_range.mp hm
    omega
  rw [e, ← List.filterMap_map, f, PySem.W.krv_range, List.filterMap_reverse, PySem.W.krv_all]
theorem getItem_back {t sl : Addr} {items : Array Value} {vs : Value} {Q : Value → Shared → Prop} (ht : IsTup s.heap t items) (hs : s.heap.IsSliceOf sl .none .none vs) (ps : IsPart vs (some (-1)))
    (h : Q (.ref s.heap.objs.size) { s with heap := s.heap.push { cls := .type "tuple", data := .seq items.toList.reverse.toArray } })
    (hsz : items.size ≤ sizeLine) : wpAny (model prog w) A (getItem (.ref t) (.ref sl)) Q E s := by
  have htake : sizeOk (.seq items.toList.reverse.toArray) := by
    show items.toList.reverse.toArray.size ≤ sizeLine
    rw [List.size_toArray, List.length_reverse, Array.length_toList]
    exact hsz
  obtain ⟨os, hos, hcs, hds⟩ := id hs
  have hTs : s.TypeIs (.ref sl) "slice" := ⟨os, hos, hcs⟩
  unfold getItem
  try with_reducible refine wpAny_holding ?_
  first | refine wpAny_bind (wpAny_pure ?_) | skip
  refine wpAny_bind (wpAny_sequenceKey ht.typeIs (by decide) ?_)
  refine wpAny_bind (wpAny_callSpecial?_slot (name := Str.ofString "__getitem__") ht.typeIs PyProof.Rows.slot_tuple_getitem
    (wpAny_call_entry PyProof.Rows.slot_tuple_getitem ht.typeIs entry_tuple_getitem ?_ (args_tuple_getitem _ _)))
  show wpAny _ _ (Builtin.Tuple.tupleItemsOf (.ref t) >>= _) _ _ s
  refine wpAny_bind (tupleItemsOf_ ht ?_)
  refine wpAny_bind (wpAny_typeOf hTs ?_)
  rw [if_pos (by decide)]
  refine wpAny_bind (applied_back hs ps ?_)
  have hno : ¬ ((((items.size : Nat) : Int) - 1 == 0 && (-1 : Int) == 1 && items.size == items.size) = true) := by
    intro q
    rw [Bool.and_eq_true, Bool.and_eq_true] at q
    exact absurd (eq_of_beq q.1.2) (by decide)
  show wpAny _ _ (if (((items.size : Nat) : Int) - 1 == 0 && (-1 : Int) == 1 && items.size == items.size) = true then _ else _) _ _ s
  rw [if_neg hno, pick_back]
  first
    | exact wpAny_bind (m := Builtin.Tuple.tupleExact _) (wpAny_newObj_type (wpAny_pure ⟨_, rfl, wpAny_pure h⟩) htake)
    | exact wpAny_bind (m := Builtin.Tuple.tupleExact _) (wpAny_newObj_type (wpAny_bind (wpAny_pure (wpAny_pure ⟨_, rfl, wpAny_pure h⟩))) htake)
    | exact wpAny_bind (wpAny_bind (m := Builtin.Tuple.tupleExact _) (wpAny_newObj_type (wpAny_pure (wpAny_pure ⟨_, rfl, wpAny_pure h⟩)) htake))
    | exact wpAny_bind (wpAny_bind (m := Builtin.Tuple.tupleExact _) (wpAny_newObj_type (wpAny_pure ⟨_, rfl, wpAny_pure h⟩) htake))
end
section
variable {X : Cx}
def tRevT (K : PySem.W.Frag) (te : TE) : TE := fun σ H Q => te σ H fun x H1 => ∃ a xs, x = .ref a ∧ SqT K H1 a xs ∧ ∀ p, H1 p = none → Q (.ref p) (upd H1 p (.tup xs.reverse))
theorem pe_revT {e : Expr} {te : TE} {k : Nat} {p1 p2 p3 pos : Pos} (he : PE X e te) : PE X (.Subscript e (.Slice none none (some (.UnaryOp .USub (.Constant (.int 1) k p1) p2)) p3) pos) (tRevT X.K te) := by
  refine ⟨fun pins s σ H Q I h => ?_⟩
  refine Subscript_ (thn (he.run pins s σ H _ I h) fun v s1 ⟨x, H1, I1, r1, q1⟩ => ?_)
  obtain ⟨a, xs, ex, hx, q⟩ := q1
  subst ex
  cases r1
  have hst : PO X (some (.UnaryOp .USub (.Constant (.int 1) k p1) p2)) (tPart (tUn (rU fun i => .int (-i)) (tC (.int 1)))) := po_some (pe_un un_neg pe_int)
  refine wpAny_Slice (thn (po_none.run pins s1 σ H1 (fun o H2 => o = none ∧ H2 = H1) I1 ⟨rfl, rfl⟩) fun vl s2 ⟨l, H2, I2, pl, el, e2⟩ => ?_)
  subst el e2
  refine thn (po_none.run pins s2 σ H2 (fun o H3 => o = none ∧ H3 = H2) I2 ⟨rfl, rfl⟩) fun vu s3 ⟨u, H3, I3, pu, eu, e3⟩ => ?_
  subst eu e3
  refine thn (hst.run pins s3 σ H3 (fun o H4 => o = some (-1) ∧ H4 = H3) I3 ⟨1, rfl, -1, rfl, rfl, rfl⟩) fun vs s4 ⟨o, H4, I4, ps, eo, e4⟩ => ?_
  subst eo e4
  have I5 : Inv X pins σ H4 { s4 with heap := s4.heap.push { cls := .type "slice", data := .fields #[vl, vu, vs] } } := I4.kept (t' := s4.toks) fun b ob q => Heap.get?_push_of_some _ q
  obtain ⟨its, r, ht, hz⟩ := I5.tuple hx
  have hlen := r.length
  cases pl
  cases pu
  show wpAny (model X.prog X.w) X.A (subscriptTail e (.Slice none none (some (.UnaryOp .USub (.Constant (.int 1) k p1) p2)) p3) (.ref a) (.ref s4.heap.objs.size)) (EP X pins σ Q) X.xe { s4 with heap := s4.heap.push { cls := .type "slice", data := .fields #[.none, .none, vs] } }
  refine tail_any (ops := [.ref a, .ref s4.heap.objs.size]) ht.typeIs (PyProof.Rows.slot_tuple_getitem.lookup) ?_ (by with_unfolding_all rfl)
  refine getItem_back ht (Heap.IsSliceOf.new _ .none .none vs) ps ?_ (by rw [List.size_toArray]; omega)
  refine ⟨.ref _, _, I5.laid (t' := s4.toks) (o := .tup xs.reverse) (fun b ob q => Heap.get?_push_of_some _ q) (Nat.le_refl _) ?_, rfl, q _ (I5.hok.fresh (Nat.le_refl _))⟩
  exact ⟨by rw [List.length_reverse]; exact hz, _, r.reverse, IsTup.new _ _⟩
end
end OwRv

/-! for x in e, e a list or a tuple; slices and sums of tuples, whichever object comes out. -/
namespace OwAn
open PySem PySem.Spec PyProof.Rows L2 Evl
section
variable {X : Cx} {tg : Expr}
def iAny (K : PySem.W.Frag) (tl : TE) : TI := fun σ H R => tl σ H fun x H1 => ∃ a, x = .ref a ∧ (((∃ xs, SqL K H1 a xs) ∧ R (Itl K a) H1) ∨ ((∃ xs, SqT K H1 a xs) ∧ R (Itt K a) H1))
theorem pi_any {l : Expr} {tl : TE} (hl : PE X l tl) : PI X tg l (iAny X.K tl) := by
  refine ⟨fun pins s σ H R I h => ?_⟩
  refine thn (hl.run pins s σ H _ I h) fun v s1 ⟨x, H1, I1, r1, q1⟩ => ?_
  obtain ⟨a, e, q1⟩ := q1
  subst e
  cases r1
  rcases q1 with ⟨⟨xs, hq⟩, q⟩ | ⟨⟨xs, hq⟩, q⟩
  · obtain ⟨its, rv, p, hz⟩ := I1.list hq
    refine wpAny_pyIter_list p.isList ?_
    refine ⟨s1.heap.objs.size, [s1.heap.objs.size], _, _, H1, rfl, I1.kept (t' := s1.toks) fun b o e => Heap.get?_push_of_some _ e, turn_list a _, ⟨_, Heap.get?_push_size _ rfl, rfl, rfl⟩, fun b hb => ?_, q⟩
    have e : b = s1.heap.objs.size := by simpa using hb
    subst e
    exact I1.fpOk (Nat.le_refl _) (I1.hok.fresh (Nat.le_refl _))
  · obtain ⟨its, rv, p, hz⟩ := I1.tuple hq
    refine wpAny_pyIter_tuple (show s1.heap.IsTuple a its.toArray from p) ?_
    refine ⟨s1.heap.objs.size, [s1.heap.objs.size], _, _, H1, rfl, I1.kept (t' := s1.toks) fun b o e => Heap.get?_push_of_some _ e, turn_tuple a _, ⟨_, Heap.get?_push_size _ rfl, rfl, rfl⟩, fun b hb => ?_, q⟩
    have e : b = s1.heap.objs.size := by simpa using hb
    subst e
    exact I1.fpOk (Nat.le_refl _) (I1.hok.fresh (Nat.le_refl _))
end
theorem slA_of {K : PySem.W.Frag} {H : Hp} {a : Addr} {xs : List V} {lo hi : Option Int} {Q : VK} (h : H a = some (.tup xs)) (q : ∀ p H', Ex H H' → H' p = some (.tup (cutV xs lo hi)) → Q (.ref p) H') : rSlA K (.ref a) lo hi H Q :=
  ⟨a, xs, rfl, SqT.of h, fun w => q a H (Ex.refl _) (by
    have e : cutV xs lo hi = xs := by
      unfold cutV
      rw [w.1, w.2]
      simp
    rw [e]
    exact h), fun _ p hp => q p _ (Ex.new hp) upd_same⟩
theorem catA_of {K : PySem.W.Frag} {H : Hp} {a b : Addr} {xs ys : List V} {Q : VK} (ha : H a = some (.tup xs)) (hb : H b = some (.tup ys)) (hz : xs.length + ys.length ≤ sizeLine) (q : ∀ p H', Ex H H' → H' p = some (.tup (xs ++ ys)) → Q (.ref p) H') : rCatA K (.ref a) (.ref b) H Q :=
  ⟨a, b, xs, ys, rfl, rfl, SqT.of ha, SqT.of hb, hz, fun e => q b H (Ex.refl _) (by rw [e]; exact hb), fun _ e => q a H (Ex.refl _) (by rw [e, List.append_nil]; exact ha), fun _ _ p hp => q p _ (Ex.new hp) upd_same⟩
theorem slL_of {K : PySem.W.Frag} {H : Hp} {a : Addr} {xs : List V} {lo hi : Option Int} {Q : VK} (h : H a = some (.lst xs)) (q : ∀ p H', Ex H H' → H' p = some (.lst (cutV xs lo hi)) → H p = none → Q (.ref p) H') : rSlL K (.ref a) lo hi H Q :=
  ⟨a, xs, rfl, SqL.of h, fun p hp => q p _ (Ex.new hp) upd_same hp⟩
theorem cat_of {H : Hp} {a b : Addr} {xs ys : List V} {Q : VK} (ha : H a = some (.lst xs)) (hb : H b = some (.lst ys)) (hz : xs.length + ys.length ≤ sizeLine) (q : ∀ p H', Ex H H' → H' p = some (.lst (xs ++ ys)) → H p = none → Q (.ref p) H') : rCat (.ref a) (.ref b) H Q :=
  ⟨a, b, xs, ys, rfl, rfl, ha, hb, hz, fun p hp => q p _ (Ex.new hp) upd_same hp⟩
theorem lof {K : PySem.W.Frag} {H : Hp} {p : Addr} {ys : List V} {Q : VK} (h : SqL K H p ys ∨ SqT K H p ys) (q : ∀ l H', Ex H H' → H' l = some (.lst ys) → H l = none → Q (.ref l) H') : ∃ p' ys', [V.ref p] = [V.ref p'] ∧ (SqL K H p' ys' ∨ SqT K H p' ys') ∧ ∀ l, H l = none → Q (.ref l) (upd H l (.lst ys')) :=
  ⟨p, ys, rfl, h, fun l hl => q l _ (Ex.new hl) upd_same hl⟩
theorem tof {K : PySem.W.Frag} {H : Hp} {p : Addr} {ys : List V} {Q : VK} (h : H p = some (.lst ys)) (q : ∀ l H', Ex H H' → H' l = some (.tup ys) → H l = none → Q (.ref l) H') : ∃ p' ys', [V.ref p] = [V.ref p'] ∧ ((SqL K H p' ys' ∧ ∀ l, H l = none → Q (.ref l) (upd H l (.tup ys'))) ∨ (SqT K H p' ys' ∧ Q (.ref p') H)) :=
  ⟨p, ys, rfl, .inl ⟨SqL.of h, fun l hl => q l _ (Ex.new hl) upd_same hl⟩⟩
end OwAn


namespace OwW
open PySem PyProof.Rows L2 L2H OwX Rd Evl OwAn
abbrev sLeast : Stmt := top 28
abbrev sBegun : Stmt := top 53
abbrev sRingF : Stmt := top 61
abbrev NLr : List Str := ["row", "at"]
abbrev NBg : List Str := ["_law_row", "_law_at"]
abbrev NRf : List Str := ["_law_places", "_law_row"]
def spLeast : Sp := fun vs H Q _ => ∃ (p : Addr) (r : List Str), vs = [.ref p] ∧ H p = some (.tup (r.map V.str)) ∧ r.Nodup ∧ 1 ≤ r.length ∧ r.length ≤ 40 ∧
  ∀ q H' k, Ex H H' → MinAt r k → H' q = some (.tup ((rotL r k).map V.str)) → Q (.ref q) H'
def spBegun : Sp := fun vs H Q _ => ∃ (p : Addr) (r : List Str), vs = [.ref p] ∧ H p = some (.lst (r.map V.str)) ∧ r.Nodup ∧ 1 ≤ r.length ∧ r.length ≤ 40 ∧
  ∀ q H' k, Ex H H' → MinAt r k → H' q = some (.tup ((rotL r k).map V.str)) → Q (.ref q) H'
def spRingF : Sp := fun vs H Q _ => ∃ (p : Addr) (r : List Str), vs = [.ref p] ∧ H p = some (.lst (r.map V.str)) ∧ r.Nodup ∧ 3 ≤ r.length ∧ r.length ≤ 40 ∧
  ∀ q H' k, Ex H H' → MinAt r k → H' q = some (.tup ((turnL (rotL r k)).map V.str)) → Q (.ref q) H'
theorem cut_fromN (xs : List V) (i : Nat) : cutV xs (some (0 + (i : Int))) none = xs.drop i := by
  unfold cutV
  have e : HT.sIx xs.length 0 (some (0 + (i : Int))) = min i xs.length := by
    rw [show (0 + (i : Int)) = ((i : Nat) : Int) by omega]
    exact HT.sIx_nat _ _ _
  have f : HT.sIx xs.length xs.length none = xs.length := rfl
  rw [e, f, List.take_of_length_le (by rw [List.length_drop]; omega)]
  rcases Nat.le_total i xs.length with h | h
  · rw [Nat.min_eq_left h]
  · rw [Nat.min_eq_right h, List.drop_eq_nil_of_le (Nat.le_refl _), List.drop_eq_nil_of_le h]
theorem cut_fromM (xs : List V) (i : Nat) : cutV xs (some (i : Int)) none = xs.drop i := by
  have z := cut_fromN xs i
  rw [show (0 + (i : Int)) = ((i : Nat) : Int) by omega] at z
  exact z
theorem cut_toN (xs : List V) (i : Nat) : cutV xs none (some (0 + (i : Int))) = xs.take i := by
  rw [show (0 + (i : Int)) = ((i : Nat) : Int) by omega]
  exact cut_upto xs i
theorem dp_rows {K : PySem.W.Frag} {H : Hp} : ∀ {zs : List (Addr × List Str)}, (∀ z ∈ zs, H z.1 = some (.tup (z.2.map V.str))) → DpAll K H (tmk zs) (zs.map fun z => rowD z.2)
  | [], _ => .nil
  | z :: zs, h => .cons (.tup (SqT.of (h z List.mem_cons_self)) (dp_strsT z.2)) (dp_rows fun y hy => h y (List.mem_cons_of_mem _ hy))
theorem depth_rows : ∀ zs : List (Addr × List Str), PyData.depthAll (zs.map fun z => rowD z.2) ≤ 2
  | [] => by simp [PyData.depthAll]
  | z :: zs => by
    have ih := depth_rows zs
    have d : (rowD z.2).depth ≤ 2 := by
      unfold rowD
      have y := OwP.depth_strs z.2
      omega
    show max (rowD z.2).depth (PyData.depthAll (zs.map fun z => rowD z.2)) ≤ 2
    omega
theorem depth_strs0 : ∀ l : List Str, PyData.depthAll (l.map PyData.str) ≤ 0
  | [] => Nat.le_refl _
  | k :: r => by
    have ih := depth_strs0 r
    show max 0 (PyData.depthAll (r.map PyData.str)) ≤ 0
    omega
theorem eqv_self (a : Str) : eqV (.str a) (.str a) = true := by
  show (a == a) = true
  simp
theorem eqv_str_no {a b : Str} (h : a ≠ b) : eqV (.str a) (.str b) = false := by
  show (a == b) = false
  simpa using h
section
variable {P : Program} {w : World} {K : PySem.W.Frag} {mg : Str → Option Value} {base : Heap}
theorem scLeast : FnScope NLr ["row"] (defScope sLeast) := ⟨rfl, rfl, rfl, by decide +kernel, rfl, by decide +kernel, by decide +kernel⟩
theorem ok_least {f : Addr} {fd : FuncData} (F : Fun K "least_rotation" "least_rotation" sLeast f fd) (T : BltM mg) (gMi : mg "min" = none) : FnOk P w K mg base CX0 1 f fd ["row"] spLeast := by
  have nd := scLeast.nd
  refine F.ok scLeast (fun vs H Q E h => ?_) (fun cdv A outer s H vs Q E hr h => ⟨_, (pss_one (ps_ret (pe_callB (OwMn.cr_minD rfl hr.units) (by rfl) gMi (by decide +kernel) (pa_cons (pe_lc (own := [("at", 1)]) (g := gName 1) (tt := tYes) (te := tOp (rCatA K) (tSl (rSlA K) (tVar 0) (tPart (tVar 1)) tNoPart) (tSl (rSlA K) (tVar 0) tNoPart (tPart (tVar 1)))) rfl nd (pi_range1 rfl T.range (pa_cons (pe_callB call_len_seq (by rfl) T.len (by decide +kernel) (pa_cons (pv 0) pa_nil)) pa_nil)) (blkOk_by (own := [("at", 1)]) (N := NLr) (sc := defScope sLeast) (by decide +kernel)) (fun _ _ _ _ _ => (pg_name (i := 1) nd rfl (Or.inl rfl))) (fun _ _ _ _ _ => pts_nil) (fun _ _ _ _ _ => (pe_op op_catA (pe_slice sl_tupA (pv 0) (po_some (pv 1)) po_none) (pe_slice sl_tupA (pv 0) po_none (po_some (pv 1)))))) pa_nil)))), ?_⟩)
  · obtain ⟨p, r, rfl, _⟩ := h
    rfl
  · obtain ⟨p, r, rfl, hp, rn, r1, r40, k⟩ := h
    walk_at "rd"
    refine Rd.lcm' ?_
    walk_at "rd"
    refine ⟨_, rfl, p, _, rfl, .inr (SqT.of hp), ?_⟩
    rw [List.length_map]
    refine ⟨_, rfl, by omega, by omega, fun D hD => ?_⟩
    refine lc_it walk_range (fun i H' => Ex H H' ∧ ∃ zs : List (Addr × List Str), H' D = some (.lst (tmk zs)) ∧ (∀ z ∈ zs, H' z.1 = some (.tup (z.2.map V.str))) ∧ zs.map (·.2) = (List.range i).map fun j => rotL r j) ⟨Ex.new hD, [], upd_same, (fun _ h => nomatch h), rfl⟩ (fun _ _ _ _ => trivial) (fun i z Ha Hb hi hP hY => ?_) (fun H2 hP => ?_)
    · obtain ⟨e1, zs, l1, t1, m1⟩ := hP
      obtain ⟨rfl, rfl⟩ := hY
      show _ ∧ _
      refine ⟨rfl, ?_⟩
      unfold tYes
      show (if (true : Bool) = true then _ else _)
      rw [if_pos rfl]
      unfold tOp tSl tPart tNoPart
      walk_at "rd"
      refine ⟨_, rfl, ?_⟩
      refine slA_of (e1 _ _ hp) fun q1 H4 x4 h4 => ?_
      refine ⟨_, rfl, _, rfl, _, rfl, ?_⟩
      refine slA_of (x4 _ _ (e1 _ _ hp)) fun q2 H5 x5 h5 => ?_
      refine catA_of (x5 _ _ h4) h5 ?_ fun q3 H6 x6 h6 => ?_
      · rw [cut_fromN, cut_toN, List.length_drop, List.length_take, List.length_map, sizeLine_eq]
        omega
      rw [cut_fromN, cut_toN, ← List.map_drop, ← List.map_take, ← List.map_append] at h6
      have x46 : Ex Hb H6 := (x4.trans x5).trans x6
      have l6 := x46 _ _ l1
      have zl : zs.length = i := by
        have z := congrArg List.length m1
        simpa using z
      have hi' : i < r.length := hi
      have nq : q3 ≠ D := fun e => by
        rw [e, l6] at h6
        exact nomatch h6
      refine ⟨tmk zs, l6, sz_lt (by unfold tmk; rw [List.length_map]; omega), (e1.trans x46).mut hD, zs ++ [(q3, rotL r i)], ?_, fun z hz => ?_, ?_⟩
      · rw [upd_same]
        unfold tmk
        rw [List.map_append]
        rfl
      · rcases List.mem_append.mp hz with y | y
        · have t := x46 _ _ (t1 z y)
          have n : z.1 ≠ D := fun e => by
            rw [e, l6] at t
            exact nomatch t
          rw [upd_ne n]
          exact t
        · rw [List.mem_singleton.mp y]
          exact (upd_ne nq).trans h6
      · rw [List.map_append, m1, List.range_succ, List.map_append]
        rfl
    · obtain ⟨e1, zs, l1, t1, m1⟩ := hP
      walk_at "rd"
      have er : (↑r.length : Int).toNat = r.length := rfl
      rw [er] at m1
      have ed : (zs.map fun z => rowD z.2) = (List.range r.length).map fun i => rowD (rotL r i) := by
        have z := congrArg (List.map rowD) m1
        rw [List.map_map, List.map_map] at z
        exact z
      have zl : zs.length = r.length := by
        have z := congrArg List.length m1
        simpa using z
      refine ⟨D, tmk zs, _, rfl, .inl (SqL.of l1), dp_rows t1, fun z => ?_, ⟨fun x hx y hy => ?_, fun x hx => ?_⟩, ?_, fun v d L => ?_⟩
      · have z2 := congrArg List.length z
        simp at z2
        rw [z2] at zl
        simp at zl
        omega
      · obtain ⟨a, _, rfl⟩ := List.mem_map.mp hx
        obtain ⟨b, _, rfl⟩ := List.mem_map.mp hy
        exact OwP.alike_any _ _
      · obtain ⟨a, _, rfl⟩ := List.mem_map.mp hx
        exact fun e => nomatch e
      · exact Nat.le_trans (depth_rows zs) (by decide)
      · rw [ed] at L
        obtain ⟨j, mj, hj, _⟩ := least_rot rn L
        unfold tmk at hj
        rw [List.getElem?_map] at hj
        obtain ⟨z, hz, rfl⟩ := Option.map_eq_some_iff.mp hj
        have ez : z.2 = rotL r j := by
          have y := congrArg (fun l => l[j]?) m1
          rw [List.getElem?_map, hz, List.getElem?_map, List.getElem?_range mj.1] at y
          exact Option.some.inj y
        exact k z.1 H2 j e1 mj (by rw [← ez]; exact t1 z (List.mem_of_getElem? hz))
theorem scBegun : FnScope NBg ["_law_row"] (defScope sBegun) := ⟨rfl, rfl, rfl, by decide +kernel, rfl, by decide +kernel, by decide +kernel⟩
theorem ok_begun {f : Addr} {fd : FuncData} (F : Fun K "_law_begun" "_law_begun" sBegun f fd) (T : BltM mg) (gMi : mg "min" = none) : FnOk P w K mg base CX0 1 f fd ["_law_row"] spBegun := by
  have nd := scBegun.nd
  refine F.ok scBegun (fun vs H Q E h => ?_) (fun cdv A outer s H vs Q E hr h => ⟨_, (pss_cons (ps_if (pt_cmpR op_eq (pe_callB call_len_seq (by rfl) T.len (by decide +kernel) (pa_cons (pv 0) pa_nil)) pe_int (nomark _)) (pss_one (ps_ret (pe_tup pa_nil))) pss_nil)
    (pss_cons (ps_set (i := 1) nd rfl (Or.inl rfl) (pe_bm PySem.F.plainAttrs_list PySem.F.slot_list_index PySem.F.type_list_index mt_index (pe_callTy call_list_of (by rfl) T.list (by decide +kernel) (pa_cons (pv 0) pa_nil)) (pa_cons (pe_callB (OwMn.cr_minD rfl hr.units) (by rfl) gMi (by decide +kernel) (pa_cons (pv 0) pa_nil)) pa_nil)))
    (pss_one (ps_ret (pe_callTy call_tuple_of (by rfl) T.tuple (by decide +kernel) (pa_cons (pe_op op_cat (pe_slice sl_list (pe_callTy call_list_of (by rfl) T.list (by decide +kernel) (pa_cons (pv 0) pa_nil)) (po_some (pv 1)) po_none) (pe_slice sl_list (pe_callTy call_list_of (by rfl) T.list (by decide +kernel) (pa_cons (pv 0) pa_nil)) po_none (po_some (pv 1)))) pa_nil)))))), ?_⟩)
  · obtain ⟨p, r, rfl, _⟩ := h
    rfl
  · obtain ⟨p, r, rfl, hp, rn, r1, r40, k⟩ := h
    walk_at "rd"
    refine ⟨p, _, rfl, .inl (SqL.of hp), ?_⟩
    walk_at "rd"
    refine Rd.eq rfl ⟨_, rfl, ?_⟩
    rw [List.length_map, if_neg (show ¬ decide (V.int (r.length : Nat) = V.int 0) = true by simp only [decide_eq_true_eq, V.int.injEq]; omega)]
    walk_at "rd"
    refine ⟨_, rfl, p, _, rfl, .inl (SqL.of hp), fun S hS => ?_⟩
    have e1 : Ex H (upd H S (.lst (r.map V.str))) := Ex.new hS
    have s1 : (upd H S (.lst (r.map V.str))) S = some (.lst (r.map V.str)) := upd_same
    generalize upd H S (.lst (r.map V.str)) = H1 at e1 s1 ⊢
    walk_at "rd"
    refine ⟨.inl ⟨rfl, _, SqL.of s1⟩, _, rfl, ?_⟩
    walk_at "rd"
    refine ⟨p, _, _, rfl, .inl (SqL.of (e1 _ _ hp)), dp_strsT r, fun z => ?_, ⟨fun x hx y hy => ?_, fun x hx => ?_⟩, ?_, fun v d L => ?_⟩
    · have z2 := congrArg List.length z
      simp at z2
      rw [z2] at r1
      exact absurd r1 (by decide)
    · obtain ⟨a, _, rfl⟩ := List.mem_map.mp hx
      obtain ⟨b, _, rfl⟩ := List.mem_map.mp hy
      rfl
    · obtain ⟨a, _, rfl⟩ := List.mem_map.mp hx
      exact fun e => nomatch e
    · exact Nat.le_trans (depth_strs0 r) (by decide)
    obtain ⟨j, mj, rfl⟩ := least_name rfl L
    have gj : r[j]? = some (r.getD j "") := by rw [List.getD_eq_getElem?_getD, List.getElem?_eq_getElem mj.1]; rfl
    walk_at "rd"
    refine ⟨S, _, .str (r.getD j ""), j, .str (r.getD j ""), rfl, rfl, SqL.of s1, rfl, flat_strs r, by rw [List.getElem?_map, gj]; rfl, eqv_self _, fun m z hm hz => ?_, ?_⟩
    · rw [List.getElem?_map] at hz
      obtain ⟨y, hy, rfl⟩ := Option.map_eq_some_iff.mp hz
      have ny : y ≠ r.getD j "" := fun e => by
        rw [e] at hy
        have lm : m < r.length := (List.getElem?_eq_some_iff.mp hy).1
        have := (List.getElem?_inj lm rn).mp (hy.trans gj.symm)
        omega
      exact eqv_str_no ny
    walk_at "rd"
    refine ⟨_, rfl, p, _, rfl, .inl (SqL.of (e1 _ _ hp)), fun S1 hS1 => ?_⟩
    have e2 : Ex H1 (upd H1 S1 (.lst (r.map V.str))) := Ex.new hS1
    have s2 : (upd H1 S1 (.lst (r.map V.str))) S1 = some (.lst (r.map V.str)) := upd_same
    generalize upd H1 S1 (.lst (r.map V.str)) = H2 at e2 s2 ⊢
    unfold tSl tPart tNoPart
    walk_at "rd"
    refine ⟨_, rfl, ?_⟩
    refine slL_of s2 fun q1 H3 x3 h3 _ => ?_
    walk_at "rd"
    refine ⟨p, _, rfl, .inl (SqL.of ((e1.trans (e2.trans x3)) _ _ hp)), fun S2 hS2 => ?_⟩
    have x4 : Ex H3 (upd H3 S2 (.lst (r.map V.str))) := Ex.new hS2
    have h4 : (upd H3 S2 (.lst (r.map V.str))) S2 = some (.lst (r.map V.str)) := upd_same
    generalize upd H3 S2 (.lst (r.map V.str)) = H4 at x4 h4 ⊢
    walk_at "rd"
    refine ⟨_, rfl, ?_⟩
    refine slL_of h4 fun q2 H5 x5 h5 _ => ?_
    refine cat_of ((x4.trans x5) _ _ h3) h5 ?_ fun q3 H6 x6 h6 _ => ?_
    · rw [cut_fromM, cut_upto, List.length_drop, List.length_take, List.length_map, sizeLine_eq]
      omega
    rw [cut_fromM, cut_upto, ← List.map_drop, ← List.map_take, ← List.map_append] at h6
    walk_at "rd"
    refine ⟨q3, _, rfl, .inl ⟨SqL.of h6, fun q4 hq4 => ?_⟩⟩
    exact k q4 _ j ((((((e1.trans e2).trans x3).trans x4).trans x5).trans x6).trans (Ex.new hq4)) mj upd_same
theorem scRingF : FnScope NRf ["_law_places"] (defScope sRingF) := ⟨rfl, rfl, rfl, by decide +kernel, rfl, by decide +kernel, by decide +kernel⟩
theorem ok_ringf {f : Addr} {fd : FuncData} (F : Fun K "_law_ring_form" "_law_ring_form" sRingF f fd) (cB : Cl P w K mg base 1 "_law_begun" ["_law_row"] spBegun) (T : BltM mg) : FnOk P w K mg base CX0 2 f fd ["_law_places"] spRingF := by
  have nd := scRingF.nd
  refine F.ok scRingF (fun vs H Q E h => ?_) (fun cdv A outer s H vs Q E hr h => ⟨_, (pss_cons (ps_set (i := 1) nd rfl (Or.inl rfl) (pe_callTy call_list_of (by rfl) T.list (by decide +kernel) (pa_cons (pe_call cB.ok (hr.mono (by decide)) (by rfl) cB.gl cB.kp cB.bd .nil pass0 (pa_cons (pv 0) pa_nil)) pa_nil)))
    (pss_one (ps_ret (pe_callTy call_tuple_of (by rfl) T.tuple (by decide +kernel) (pa_cons (pe_ifExp (pt_cmpR op_lt_str (pe_ix ix_list (pv 1) pe_int (fun _ _ => rfl)) (pe_ix ix_list (pv 1) (pe_un un_neg pe_int) (fun _ _ => rfl)) (nomark _)) (pv 1) (pe_op op_cat (pe_slice sl_list (pv 1) po_none (po_some pe_int)) (pe_revL (pe_slice sl_list (pv 1) (po_some pe_int) po_none)))) pa_nil))))), ?_⟩)
  · obtain ⟨p, r, rfl, _⟩ := h
    rfl
  · obtain ⟨p, r, rfl, hp, rn, r3, r40, k⟩ := h
    walk_at "rd"
    refine ⟨p, r, rfl, hp, rn, by omega, r40, fun q H1 j e1 mj hq => ?_⟩
    walk_at "rd"
    refine ⟨q, _, rfl, .inr (SqT.of hq), fun S hS => ?_⟩
    have e2 : Ex H1 (upd H1 S (.lst ((rotL r j).map V.str))) := Ex.new hS
    have s2 : (upd H1 S (.lst ((rotL r j).map V.str))) S = some (.lst ((rotL r j).map V.str)) := upd_same
    generalize upd H1 S (.lst ((rotL r j).map V.str)) = H2 at e2 s2 ⊢
    walk_at "rd"
    have lr : (rotL r j).length = r.length := by
      unfold rotL
      have := mj.1
      rw [List.length_append, List.length_drop, List.length_take]
      omega
    have g1 : atI ((rotL r j).map V.str) 1 = some (.str ((rotL r j).getD 1 "")) := by
      have z := atI_nat (xs := (rotL r j).map V.str) (j := 1) (v := .str ((rotL r j).getD 1 "")) (by rw [List.getElem?_map, List.getElem?_eq_getElem (by omega), List.getD_eq_getElem?_getD, List.getElem?_eq_getElem (by omega)]; rfl)
      exact z
    have g2 : atI ((rotL r j).map V.str) (-1) = some (.str ((rotL r j).getD ((rotL r j).length - 1) "")) := by
      unfold atI ixN
      rw [if_neg (by decide), if_pos (by rw [List.length_map]; omega)]
      show ((rotL r j).map V.str)[(((rotL r j).map V.str).length + (-1 : Int)).toNat]? = _
      have c : ((((rotL r j).map V.str).length : Int) + (-1)).toNat = (rotL r j).length - 1 := by rw [List.length_map]; omega
      rw [c, List.getElem?_map, List.getElem?_eq_getElem (by omega), List.getD_eq_getElem?_getD, List.getElem?_eq_getElem (by omega)]
      rfl
    refine Rd.ixl (SqL.of s2) g1 ?_
    walk_at "rd"
    refine Rd.ixl (SqL.of s2) g2 ?_
    refine ⟨_, _, rfl, rfl, _, rfl, ?_⟩
    have el : (OwL2.lt ((rotL r j).getD 1 "") ((rotL r j).getD ((rotL r j).length - 1) "")) = decide (((rotL r j).getD 1 "").cps.toList < ((rotL r j).getD ((rotL r j).length - 1) "").cps.toList) := rfl
    rw [← el]
    by_cases c : OwL2.lt ((rotL r j).getD 1 "") ((rotL r j).getD ((rotL r j).length - 1) "") = true
    · rw [if_pos c]
      walk_at "rd"
      refine ⟨S, _, rfl, .inl ⟨SqL.of s2, fun q4 hq4 => ?_⟩⟩
      refine k q4 _ j ((e1.trans e2).trans (Ex.new hq4)) mj ?_
      unfold turnL
      rw [if_pos c]
      exact upd_same
    · rw [if_neg c]
      unfold tSl tPart tNoPart tRevL
      walk_at "rd"
      refine ⟨_, rfl, ?_⟩
      refine slL_of s2 fun q1 H3 x3 h3 _ => ?_
      walk_at "rd"
      refine ⟨_, rfl, ?_⟩
      refine slL_of (x3 _ _ s2) fun q2 H4 x4 h4 _ => ?_
      refine ⟨q2, _, rfl, SqL.of h4, fun q3 hq3 => ?_⟩
      have x5 : Ex H4 (upd H4 q3 (.lst (cutV ((rotL r j).map V.str) (some 1) none).reverse)) := Ex.new hq3
      have h5 : (upd H4 q3 (.lst (cutV ((rotL r j).map V.str) (some 1) none).reverse)) q3 = some (.lst (cutV ((rotL r j).map V.str) (some 1) none).reverse) := upd_same
      generalize upd H4 q3 (.lst (cutV ((rotL r j).map V.str) (some 1) none).reverse) = H5 at x5 h5 ⊢
      have c1 : cutV ((rotL r j).map V.str) (some 1) none = ((rotL r j).drop 1).map V.str := (cut_fromM _ 1).trans List.map_drop.symm
      have c2 : cutV ((rotL r j).map V.str) none (some 1) = ((rotL r j).take 1).map V.str := (cut_upto _ 1).trans List.map_take.symm
      rw [c1, ← List.map_reverse] at h5
      rw [c2] at h3
      refine cat_of ((x4.trans x5) _ _ h3) h5 ?_ fun q4 H6 x6 h6 _ => ?_
      · rw [List.length_map, List.length_map, List.length_take, List.length_reverse, List.length_drop, sizeLine_eq]
        omega
      rw [← List.map_append] at h6
      walk_at "rd"
      refine ⟨q4, _, rfl, .inl ⟨SqL.of h6, fun q5 hq5 => ?_⟩⟩
      refine k q5 _ j ((((((e1.trans e2).trans x3).trans x4).trans x5).trans x6).trans (Ex.new hq5)) mj ?_
      unfold turnL
      rw [if_neg c]
      exact upd_same
end
end OwW


namespace OwW
open PySem PyProof.Rows L2 L2H OwX Rd Evl OwAn
abbrev sClos : Stmt := top 56
abbrev NCl : List Str := ["_law_some", "_law_tie_here", "_law_seen", "_law_turn", "_law_more", "_law_a", "_law_b"]
def spClos : Sp := fun vs H Q _ => ∃ (p t : Addr) (ks : List Str) (zs : TL) (a b : Str), vs = [.ref p, .ref t] ∧ H p = some (.lst (rf zs)) ∧ TA H zs ∧ H t = some (.tup [.str a, .str b]) ∧ (∀ k ∈ ks, nameB k = true) ∧ ks.Nodup ∧ ks.length ≤ 40 ∧ zs.length ≤ 40 ∧ (∀ t ∈ zs.map (·.2), t.1 ∈ ks ∧ t.2 ∈ ks) ∧ a ∈ ks ∧ b ∈ ks ∧
  ∀ H' c, Ex H H' → (c = true ↔ OwG.Con (zs.map (·.2)) a b) → Q (.bl c) H'
/-- if x in seen and y not in seen + more: more.append(y) .. elif y in seen and x not in seen + more: more.append(x) -/
theorem clos_if {K : PySem.W.Frag} {σ : L2.St} {D : L2.Ends} {H0 Hc : Hp} {Al M : Addr} {x y x0 : Str} {ts : List (Str × Str)} {L lot more : List Str} {n : Nat} (hx : σ[5]? = some (some (.str x))) (hy : σ[6]? = some (some (.str y))) (h2 : σ[2]? = some (some (.ref Al))) (h4 : σ[4]? = some (some (.ref M)))
    (e : Ex H0 Hc) (hM : H0 M = none) (a0 : H0 Al = some (.lst (lot.map V.str))) (m : Hc M = some (.lst (more.map V.str))) (mi : MoreI ts L x0 lot more n) (li : LotI ts L x0 lot) (ll : L.length ≤ 40) (hxl : x ∈ L) (hyl : y ∈ L) (ht : (x, y) ∈ ts)
    (k : ∀ more' H', Ex H0 H' → H' M = some (.lst (more'.map V.str)) → MoreI ts L x0 lot more' n → (x ∈ lot → y ∈ lot ++ more') → (y ∈ lot → x ∈ lot ++ more') → D.nx σ H') :
    tIfS (tAnd (tTest (tOp (rIn K false) (tVar 5) (tVar 2))) (tTest (tOp (rIn K true) (tVar 6) (tOp rCat (tVar 2) (tVar 4))))) (tDrop (tBM K "list" rAppend (tVar 4) (tCons (tVar 6) tNil)))
      (tIfS (tAnd (tTest (tOp (rIn K false) (tVar 6) (tVar 2))) (tTest (tOp (rIn K true) (tVar 5) (tOp rCat (tVar 2) (tVar 4))))) (tDrop (tBM K "list" rAppend (tVar 4) (tCons (tVar 5) tNil))) tNext) D σ Hc := by
  have ml : more.length ≤ 40 := Nat.le_trans (nodup_le more L (List.nodup_append.mp mi.nd).2.1 mi.sub) ll
  have hl : lot.length ≤ 40 := Nat.le_trans (full_len li) ll
  have f : ∀ (s : Str) (l : List Str), (if false = true then !inV (.str s) (l.map V.str) else inV (.str s) (l.map V.str)) = decide (s ∈ l) := fun s l => by rw [if_neg (by decide), inV_strs]
  have g : ∀ (s : Str) (l : List Str), (if true = true then !inV (.str s) (l.map V.str) else inV (.str s) (l.map V.str)) = !decide (s ∈ l) := fun s l => by rw [if_pos rfl, inV_strs]
  -- the second question
  have two : ∀ Hd, Ex Hc Hd → (x ∈ lot → y ∈ lot ++ more) →
      tIfS (tAnd (tTest (tOp (rIn K false) (tVar 6) (tVar 2))) (tTest (tOp (rIn K true) (tVar 5) (tOp rCat (tVar 2) (tVar 4))))) (tDrop (tBM K "list" rAppend (tVar 4) (tCons (tVar 5) tNil))) tNext D σ Hd := fun Hd ed hxy => by
    refine ⟨_, hy, _, h2, Al, _, rfl, .inl (SqL.of (ed _ _ (e _ _ a0))), rfl, flat_strs lot, ?_⟩
    rw [f]
    refine ⟨_, rfl, ?_⟩
    by_cases c : y ∈ lot
    · rw [decide_eq_true c]
      refine Rd.iteT rfl ?_
      refine ⟨_, hx, _, h2, _, h4, Al, M, _, _, rfl, rfl, ed _ _ (e _ _ a0), ed _ _ m, by rw [List.length_map, List.length_map, sizeLine_eq]; omega, fun S hS => ?_⟩
      rw [← List.map_append]
      have eS : Ex Hd (upd Hd S (.lst ((lot ++ more).map V.str))) := Ex.new hS
      have s1 : (upd Hd S (.lst ((lot ++ more).map V.str))) S = some (.lst ((lot ++ more).map V.str)) := upd_same
      generalize upd Hd S (.lst ((lot ++ more).map V.str)) = He at eS s1 ⊢
      refine ⟨S, _, rfl, .inl (SqL.of s1), rfl, flat_strs _, ?_⟩
      rw [g]
      refine ⟨_, rfl, ?_⟩
      have e2 := e.trans (ed.trans eS)
      by_cases c3 : x ∈ lot ++ more
      · rw [decide_eq_true c3]
        refine Rd.iteF (by decide) ?_
        exact k more He e2 ((ed.trans eS) _ _ m) mi hxy fun _ => c3
      · rw [decide_eq_false c3]
        refine Rd.iteT (by decide) ?_
        have m2 := (ed.trans eS) _ _ m
        refine ⟨_, h4, .inl ⟨rfl, _, SqL.of m2⟩, _, hx, M, _, _, rfl, rfl, m2, sz_lt (by rw [List.length_map]; omega), ?_⟩
        refine k (more ++ [x]) _ (e2.mut hM) (by rw [upd_same, List.map_append]; rfl) (mi.add hxl (.on (li.rch _ c) (ends_iff.mpr (.inr ht))) c3) (fun z => ?_) fun _ => by simp
        exact absurd (List.mem_append_left _ z) c3
    · rw [decide_eq_false c]
      refine Rd.iteF (by decide) (Rd.iteF (by decide) ?_)
      exact k more Hd (e.trans ed) (ed _ _ m) mi hxy fun h => absurd h c
  refine ⟨_, hx, _, h2, Al, _, rfl, .inl (SqL.of (e _ _ a0)), rfl, flat_strs lot, ?_⟩
  rw [f]
  refine ⟨_, rfl, ?_⟩
  by_cases c : x ∈ lot
  · rw [decide_eq_true c]
    refine Rd.iteT rfl ?_
    refine ⟨_, hy, _, h2, _, h4, Al, M, _, _, rfl, rfl, e _ _ a0, m, by rw [List.length_map, List.length_map, sizeLine_eq]; omega, fun S hS => ?_⟩
    rw [← List.map_append]
    have eS : Ex Hc (upd Hc S (.lst ((lot ++ more).map V.str))) := Ex.new hS
    have s1 : (upd Hc S (.lst ((lot ++ more).map V.str))) S = some (.lst ((lot ++ more).map V.str)) := upd_same
    generalize upd Hc S (.lst ((lot ++ more).map V.str)) = Hd at eS s1 ⊢
    refine ⟨S, _, rfl, .inl (SqL.of s1), rfl, flat_strs _, ?_⟩
    rw [g]
    refine ⟨_, rfl, ?_⟩
    have e2 := e.trans eS
    by_cases c3 : y ∈ lot ++ more
    · rw [decide_eq_true c3]
      refine Rd.iteF (by decide) ?_
      exact two Hd eS fun _ => c3
    · rw [decide_eq_false c3]
      refine Rd.iteT (by decide) ?_
      have m2 := eS _ _ m
      refine ⟨_, h4, .inl ⟨rfl, _, SqL.of m2⟩, _, hy, M, _, _, rfl, rfl, m2, sz_lt (by rw [List.length_map]; omega), ?_⟩
      exact k (more ++ [y]) _ (e2.mut hM) (by rw [upd_same, List.map_append]; rfl) (mi.add hyl (.on (li.rch _ c) (ends_iff.mpr (.inl ht))) c3) (fun _ => by simp) fun _ => List.mem_append_left _ c
  · rw [decide_eq_false c]
    refine Rd.iteF (by decide) (Rd.iteF (by decide) ?_)
    exact two Hc (Ex.refl _) fun h => absurd h c
section
variable {P : Program} {w : World} {K : PySem.W.Frag} {mg : Str → Option Value} {base : Heap}
theorem scClos : FnScope NCl ["_law_some", "_law_tie_here"] (defScope sClos) := ⟨rfl, rfl, rfl, by decide +kernel, rfl, by decide +kernel, by decide +kernel⟩
theorem ok_clos {f : Addr} {fd : FuncData} (F : Fun K "_law_is_closing" "_law_is_closing" sClos f fd) (T : BltM mg) : FnOk P w K mg base CX0 1 f fd ["_law_some", "_law_tie_here"] spClos := by
  have nd := scClos.nd
  refine F.ok scClos (fun vs H Q E h => ?_) (fun cdv A outer s H vs Q E hr h => ⟨_, (pss_cons (ps_set (i := 2) nd rfl (Or.inl rfl) (pe_lstN (pa_cons (pe_ix ix_tup (pv 1) pe_int (fun _ _ => rfl)) pa_nil)))
    (pss_cons (ps_for PassesOwn.never rfl (pi_range1 rfl T.range (pa_cons (pe_callB call_len_seq (by rfl) T.len (by decide +kernel) (pa_cons (pv 0) pa_nil)) pa_nil)) (pg_name (i := 3) nd rfl (Or.inl rfl)) (pss_cons (ps_set (i := 4) nd rfl (Or.inl rfl) (pe_lstN pa_nil))
    (pss_cons (ps_for PassesOwn.never rfl (pi_list (pv 0)) (pg_tup rfl (pgs_cons (pg_name (i := 5) nd rfl (Or.inl rfl)) (pgs_cons (pg_name (i := 6) nd rfl (Or.inl rfl)) pgs_nil))) (pss_one (ps_if ((pw_and (pt_cmpR op_in_seq (pv 5) (pv 2) (by with_unfolding_all rfl)) (pw_and1 (pt_cmpR op_notIn_seq (pv 6) (pe_op op_cat (pv 2) (pv 4)) (by with_unfolding_all rfl))))).pt (pss_one (ps_expr (pe_bm PySem.F.plainAttrs_list PySem.F.slot_list_append PySem.F.type_list_append mt_append (pv 4) (pa_cons (pv 6) pa_nil)))) (pss_one (ps_if ((pw_and (pt_cmpR op_in_seq (pv 6) (pv 2) (by with_unfolding_all rfl)) (pw_and1 (pt_cmpR op_notIn_seq (pv 5) (pe_op op_cat (pv 2) (pv 4)) (by with_unfolding_all rfl))))).pt (pss_one (ps_expr (pe_bm PySem.F.plainAttrs_list PySem.F.slot_list_append PySem.F.type_list_append mt_append (pv 4) (pa_cons (pv 5) pa_nil)))) pss_nil)))))
    (pss_cons (ps_set (i := 2) nd rfl (Or.inl rfl) (pe_op op_cat (pv 2) (pv 4)))
    (pss_one (ps_if ((pw_or (pt_cmpR (op_eqD hr.units) (pv 4) (pe_lstN pa_nil) (nomark _)) (pw_or1 (pt_cmpR op_in_seq (pe_ix ix_tup (pv 1) pe_int (fun _ _ => rfl)) (pv 2) (by with_unfolding_all rfl))))).pt (pss_one ps_break) pss_nil))))))
    (pss_one (ps_ret (pe_cmpR op_in_seq (pe_ix ix_tup (pv 1) pe_int (fun _ _ => rfl)) (pv 2) (by with_unfolding_all rfl)))))), ?_⟩)
  · obtain ⟨p, t, ks, zs, a, b, rfl, _⟩ := h
    rfl
  · obtain ⟨p, t, ks, zs, a, b, rfl, hp, ta, ht, nam, knd, k40, zl, hin, ak, bk, k⟩ := h
    rw [show L2.start NCl [V.ref p, V.ref t] = [some (.ref p), some (.ref t), none, none, none, none, none] from rfl]
    walk_at "rd"
    refine Rd.ixt (SqT.of ht) rfl ?_
    walk_at "rd"
    refine ⟨small64 (n := 1) (by decide), fun Al hA _ => ?_⟩
    have eA : Ex H (upd H Al (.lst [V.str a])) := Ex.new hA
    have A1 : (upd H Al (.lst [V.str a])) Al = some (.lst ([a].map V.str)) := upd_same
    generalize upd H Al (.lst [V.str a]) = H1 at eA A1
    walk_at "rd"
    dsimp only [List.set_cons_succ, List.set_cons_zero]
    with_reducible refine Rd.for' (Rd.irng' ?_)
    walk_at "rd"
    refine ⟨p, _, rfl, Or.inl (SqL.of (eA _ _ hp)), ?_⟩
    rw [List.length_map]
    walk_at "rd"
    refine ⟨_, rfl, by omega, by omega, ?_⟩
    have eT : Int.toNat ((zs.length : Nat) : Int) = zs.length := rfl
    -- the end: the lot is whole, or holds b
    have fin : ∀ (S : Addr) (lot : List Str) (H' : Hp), Ex H H' → H' S = some (.lst (lot.map V.str)) → LotI (zs.map (·.2)) ks a lot → (OwG.Con (zs.map (·.2)) a b → b ∈ lot) → Q (.bl (decide (b ∈ lot))) H' := fun S lot H' e' _ LI cb => k H' _ e' ⟨fun h => rch_con.mp (LI.rch b (of_decide_eq_true h)), fun h => decide_eq_true (cb h)⟩
    refine for_it walk_range (fun i σ H' => ∃ (Al : Addr) (lot : List Str) (x3 x4 x5 x6 : Option V), σ = [some (.ref p), some (.ref t), some (.ref Al), x3, x4, x5, x6] ∧ Ex H H' ∧ H' Al = some (.lst (lot.map V.str)) ∧ LotI (zs.map (·.2)) ks a lot ∧ i + 1 ≤ lot.length)
      ⟨Al, [a], _, _, _, _, rfl, eA, A1, ⟨by simp, fun y hy => by rw [List.mem_singleton.mp hy]; exact ak, List.mem_singleton.mpr rfl, fun y hy => by rw [List.mem_singleton.mp hy]; exact .here⟩, Nat.le_refl _⟩ (fun _ _ _ _ _ => trivial) (fun i z σ Ha Hb hi hP hY => ?_) (fun σ Ha hP => ?_)
    · obtain ⟨Al, lot, x3, x4, x5, x6, rfl, ea, hAl, LI, li⟩ := hP
      obtain ⟨rfl, rfl⟩ := hY
      have lotL := full_len LI
      walk_at "rd"
      refine ⟨small64 (n := 0) (by decide), fun M hM _ => ?_⟩
      have eM : Ex Hb (upd Hb M (.lst [])) := Ex.new hM
      have M1 : (upd Hb M (.lst [])) M = some (.lst (([] : List Str).map V.str)) := upd_same
      generalize upd Hb M (.lst []) = H5 at eM M1
      walk_at "rd"
      dsimp only [List.set_cons_succ, List.set_cons_zero]
      with_reducible refine Rd.for' ?_
      have e5 : Ex H H5 := ea.trans eM
      refine ⟨_, rfl, p, rfl, ⟨_, SqL.of (e5 _ _ hp)⟩, ?_⟩
      have zb : zs.length = (zs.map (·.2)).length := (List.length_map ..).symm
      refine for_it (walk_list (xs := rf zs)) (fun j σ H' => ∃ (more : List Str) (x5 x6 : Option V), σ = [some (.ref p), some (.ref t), some (.ref Al), some (.int (0 + (i : Nat))), some (.ref M), x5, x6] ∧ Ex Hb H' ∧ H' M = some (.lst (more.map V.str)) ∧ MoreI (zs.map (·.2)) ks a lot more j)
        ⟨[], _, _, rfl, eM, M1, MoreI.start LI⟩ (fun j σ Hc _ hP => ?_) (fun j z σ Hc Hd hj hP hY => ?_) (fun σ Hc hP => ?_)
      · obtain ⟨_, _, _, _, e6, _⟩ := hP
        exact ex_l (ea.trans e6) (SqL.of hp)
      · obtain ⟨more, x5, x6, rfl, e6, m6, MI⟩ := hP
        obtain ⟨rfl, hz⟩ := hY
        rw [List.getElem?_map] at hz
        cases htt : zs[j]? with
        | none => rw [htt] at hz; exact nomatch hz
        | some u =>
          rw [htt] at hz
          cases hz
          have et : (zs.map (·.2))[j]? = some (u.2.1, u.2.2) := by rw [List.getElem?_map, htt]; rfl
          have tm := List.mem_of_getElem? et
          refine ⟨u.1, [.str u.2.1, .str u.2.2], rfl, SqT.of (ta.ex (ea.trans e6) u (List.mem_of_getElem? htt)), rfl, .str u.2.1, [.str u.2.2], rfl, ?_⟩
          walk_at "rd"
          refine ⟨.str u.2.2, [], rfl, ?_⟩
          walk_at "rd"
          refine ⟨rfl, ?_⟩
          dsimp only [List.set_cons_succ, List.set_cons_zero]
          refine clos_if rfl rfl rfl rfl e6 hM hAl m6 MI LI k40 (hin _ tm).1 (hin _ tm).2 tm (fun m1 H1' E1 M1' MI1 f1 f2 => ?_)
          exact ⟨m1, _, _, rfl, E1, M1', MI1.step et (fun p _ => f1 p) fun p _ => f2 p⟩
      · obtain ⟨more, x5, x6, rfl, e6, m6, MI⟩ := hP
        rw [List.length_map, zb] at MI
        have ml : more.length ≤ 40 := Nat.le_trans (nodup_le more ks (List.nodup_append.mp MI.nd).2.1 MI.sub) k40
        walk_at "rd"
        refine ⟨Al, M, _, _, rfl, rfl, e6 _ _ hAl, m6, by rw [List.length_map, List.length_map, sizeLine_eq]; omega, fun S hS => ?_⟩
        rw [← List.map_append]
        have eS : Ex Hc (upd Hc S (.lst ((lot ++ more).map V.str))) := Ex.new hS
        have s7 : (upd Hc S (.lst ((lot ++ more).map V.str))) S = some (.lst ((lot ++ more).map V.str)) := upd_same
        have m7 := eS _ _ m6
        have e7 : Ex H (upd Hc S (.lst ((lot ++ more).map V.str))) := (ea.trans e6).trans eS
        generalize upd Hc S (.lst ((lot ++ more).map V.str)) = H7 at s7 m7 e7 ⊢
        clear eS hS m6 hM M1 eM e5
        walk_at "rd"
        dsimp only [List.set_cons_succ, List.set_cons_zero]
        walk_at "rd"
        refine ⟨small64 (n := 0) (by decide), fun q hq _ => ⟨_, .list [], dpL ((Ex.new hq) _ _ m7), .lst (SqL.of upd_same) .nil, shaped_lst fun x hx => name_ok (nam x (MI.sub x hx)), by decide +kernel, _, rfl, ?_⟩⟩
        rw [eqv_nilS]
        have ep : Ex H7 (upd H7 q (.lst [])) := Ex.new hq
        have s8 := ep _ _ s7
        have e8 := e7.trans ep
        generalize upd H7 q (.lst []) = H8 at s8 e8 ⊢
        have f : (if false = true then !inV (.str b) ((lot ++ more).map V.str) else inV (.str b) ((lot ++ more).map V.str)) = decide (b ∈ lot ++ more) := by rw [if_neg (by decide), inV_strs]
        have LG := MI.grow LI
        cases more with
        | nil =>
          rw [if_pos (show ([] : List Str).isEmpty = true from rfl)]
          rw [List.append_nil] at s8 f LG
          have CL := MI.closed
          rw [if_pos rfl]
          unfold tBreak
          walk_at "rd"
          refine Rd.ixt (i := 1) (v := .str b) (SqT.of (e8 _ _ ht)) rfl ?_
          walk_at "rd"
          refine ⟨S, _, rfl, .inl (SqL.of s8), rfl, flat_strs lot, ?_⟩
          rw [f]
          exact fin S lot H8 e8 s8 LG fun c => closed_all hin CL LG.at_ (rch_con.mpr c)
        | cons y ys =>
          rw [if_neg (show ¬ (y :: ys).isEmpty = true from Bool.false_ne_true)]
          walk_at "rd"
          refine Rd.ixt (i := 1) (v := .str b) (SqT.of (e8 _ _ ht)) rfl ?_
          walk_at "rd"
          refine ⟨S, _, rfl, .inl (SqL.of s8), rfl, flat_strs _, ?_⟩
          rw [f]
          refine ⟨_, rfl, ?_⟩
          by_cases c : b ∈ lot ++ (y :: ys)
          · rw [decide_eq_true c, if_pos rfl]
            unfold tBreak
            walk_at "rd"
            refine Rd.ixt (i := 1) (v := .str b) (SqT.of (e8 _ _ ht)) rfl ?_
            walk_at "rd"
            refine ⟨S, _, rfl, .inl (SqL.of s8), rfl, flat_strs _, ?_⟩
            rw [f]
            exact fin S _ H8 e8 s8 LG fun _ => c
          · rw [decide_eq_false c, if_neg (by decide)]
            refine ⟨S, lot ++ (y :: ys), _, _, _, _, rfl, e8, s8, LG, ?_⟩
            rw [List.length_append, List.length_cons]
            omega
    · obtain ⟨Al, lot, x3, x4, x5, x6, rfl, ea, hAl, LI, li⟩ := hP
      rw [eT] at li
      walk_at "rd"
      refine Rd.ixt (SqT.of (ea _ _ ht)) rfl ?_
      walk_at "rd"
      refine ⟨Al, _, rfl, .inl (SqL.of hAl), rfl, flat_strs lot, ?_⟩
      have f : (if false = true then !inV (.str b) (lot.map V.str) else inV (.str b) (lot.map V.str)) = decide (b ∈ lot) := by rw [if_neg (by decide), inV_strs]
      rw [f]
      exact fin Al lot Ha ea hAl LI fun c => OwG.comp_full knd hin ak LI.nd LI.sub (fun y hy => rch_con.mp (LI.rch y hy)) (by rw [List.length_map]; exact li) bk c
end
end OwW

/-! joining trees of a web; ties sorted. -/
namespace OwW
open PySem PyProof.Rows L2 L2H OwX Rd Evl OwAn
/-- a joining tree, in its order -/
structure TrOk (ks : List Str) (ts tr : List (Str × Str)) : Prop where
  sub : ∀ t ∈ tr, t ∈ ts
  asc : tr.Pairwise (fun a b => OwL2.ltP a b = true)
  len : tr.length + 1 = ks.length
  con : ∀ x ∈ ks, ∀ y ∈ ks, OwG.Con tr x y
theorem WebOk.knd {ks : List Str} {ts : List (Str × Str)} (W : WebOk ks ts) : ks.Nodup := W.asc.imp fun {a b} l e => by
  rw [e, lt_irr] at l
  exact nomatch l
theorem WebOk.tnd {ks : List Str} {ts : List (Str × Str)} (W : WebOk ks ts) : ts.Nodup := W.tasc.imp fun {a b} l e => by
  rw [e, ltP_irr] at l
  exact nomatch l
theorem WebOk.tne {ks : List Str} {ts : List (Str × Str)} (W : WebOk ks ts) : ∀ t ∈ ts, t.1 ≠ t.2 := fun t ht e => by
  have z := (W.ends t ht).2.2
  rw [e, lt_irr] at z
  exact nomatch z
theorem WebOk.con {ks : List Str} {ts : List (Str × Str)} (W : WebOk ks ts) : ∀ x ∈ ks, ∀ y ∈ ks, OwG.Con ts x y := fun x hx y hy => (rch_con.mp (W.join x hx)).symm.trans (rch_con.mp (W.join y hy))
theorem asc_ndP {l : List (Str × Str)} (h : l.Pairwise (fun a b => OwL2.ltP a b = true)) : l.Nodup := h.imp fun {a b} z e => by
  rw [e, ltP_irr] at z
  exact nomatch z
theorem TrOk.tree {ks : List Str} {ts tr : List (Str × Str)} (W : WebOk ks ts) (T : TrOk ks ts tr) : OwG.TreeOk ks tr :=
  ⟨⟨fun t ht => ⟨(W.ends t (T.sub t ht)).1, (W.ends t (T.sub t ht)).2.1⟩, T.con⟩, asc_ndP T.asc, fun t ht => W.tne t (T.sub t ht), T.len.symm⟩
theorem sort_ties {K : PySem.W.Frag} {H : Hp} {D : Addr} {Q : VK} {es : TL} (hD : H D = some (.lst (rf es))) (ta : TA H es) (nd : (es.map (·.2)).Nodup) (hl : es.length ≤ 1000)
    (q : ∀ p H' (es' : TL), Ex H H' → H p = none → H' p = some (.lst (rf es')) → TA H' es' → es'.Perm es → (es'.map (·.2)).Pairwise (fun a b => OwL2.ltP a b = true) → Q (.ref p) H') : OwP.rSortTp K [.ref D] H Q := by
  have e1 : (es.map fun z => ((z.1, [z.2.1, z.2.2]) : Addr × List Str)).map (fun p => V.ref p.1) = rf es := by
    rw [List.map_map]
    rfl
  have e2 : ((es.mergeSort fun a b => leP a.2 b.2).map fun z => ((z.1, [z.2.1, z.2.2]) : Addr × List Str)) = (es.map fun z => ((z.1, [z.2.1, z.2.2]) : Addr × List Str)).mergeSort OwP.le := PySem.W.sort_maps _ fun a _ b _ => (le_pr (p := (a.1, [a.2.1, a.2.2])) (q := (b.1, [b.2.1, b.2.2])) rfl rfl).symm
  have pm := List.mergeSort_perm es fun a b => leP a.2 b.2
  refine ⟨D, _, 2, rfl, SqL.of (by rw [e1]; exact hD), fun p hp => ?_, by decide, fun p hp => ?_, by rw [List.length_map]; exact hl, fun p hp => ?_⟩
  · obtain ⟨z, hz, rfl⟩ := List.mem_map.mp hp
    exact SqT.of (ta z hz)
  · obtain ⟨z, hz, rfl⟩ := List.mem_map.mp hp
    rfl
  · refine q p _ (es.mergeSort fun a b => leP a.2 b.2) (Ex.new hp) hp ?_ (fun z hz => Ex.new hp _ _ (ta z (pm.mem_iff.mp hz))) pm ?_
    · rw [← e2, List.map_map]
      exact upd_same
    · have pw : (es.mergeSort fun a b => leP a.2 b.2).Pairwise (fun a b => leP a.2 b.2 = true) := PySem.W.sort_pairwise (le := fun a b : Addr × Str × Str => leP a.2 b.2) ⟨fun a b c h g => leP_tr h g, fun a b => Bool.or_eq_true_iff.mp (leP_total a.2 b.2)⟩ _
      have n2 : ((es.mergeSort fun a b => leP a.2 b.2).map (·.2)).Nodup := (pm.map (·.2)).symm.nodup nd
      have n3 := List.pairwise_map.mp n2
      exact List.pairwise_map.mpr (pw.imp₂ (fun a b h g => leP_lt h g) n3)
/-- what a tree on its way is: behind i ties of the mixed row -/
structure KrI (ts es : List (Str × Str)) (row : List (Str × Str)) (i : Nat) : Prop where
  fst : OwG.Fst es.reverse
  sub : ∀ t ∈ es, t ∈ ts
  len : es.length ≤ i
  done : ∀ (j : Nat) (t : Str × Str), j < i → row[j]? = some t → OwG.Con es t.1 t.2
theorem KrI.start (ts row : List (Str × Str)) : KrI ts [] row 0 := ⟨.nil, (fun _ h => nomatch h), Nat.le_refl _, fun _ _ h => absurd h (Nat.not_lt_zero _)⟩
theorem con_rev {es : List (Str × Str)} {x y : Str} : OwG.Con es.reverse x y ↔ OwG.Con es x y := OwG.Con.iff fun t => List.mem_reverse
theorem KrI.skip {ts es row : List (Str × Str)} {i : Nat} (I : KrI ts es row i) {t : Str × Str} (h : row[i]? = some t) (c : OwG.Con es t.1 t.2) : KrI ts es row (i + 1) :=
  ⟨I.fst, I.sub, Nat.le_succ_of_le I.len, fun j u hj hu => by
    rcases Nat.lt_or_eq_of_le (Nat.le_of_lt_succ hj) with z | z
    · exact I.done j u z hu
    · subst z
      rw [h] at hu
      cases hu
      exact c⟩
theorem KrI.add {ts es row : List (Str × Str)} {i : Nat} (I : KrI ts es row i) {t : Str × Str} (h : row[i]? = some t) (c : ¬ OwG.Con es t.1 t.2) (ht : t ∈ ts) : KrI ts (es ++ [t]) row (i + 1) := by
  have up : ∀ u ∈ es, u ∈ es ++ [t] := fun u hu => List.mem_append_left _ hu
  refine ⟨?_, fun u hu => ?_, by rw [List.length_append]; exact Nat.add_le_add_right I.len 1, fun j u hj hu => ?_⟩
  · rw [List.reverse_append]
    exact .cons I.fst fun z => c (con_rev.mp z)
  · rcases List.mem_append.mp hu with z | z
    · exact I.sub u z
    · rw [List.mem_singleton.mp z]
      exact ht
  · rcases Nat.lt_or_eq_of_le (Nat.le_of_lt_succ hj) with z | z
    · exact (I.done j u z hu).mono up
    · subst z
      rw [h] at hu
      cases hu
      exact .one (.inl (List.mem_append_right _ List.mem_cons_self))
theorem fst_nodup {es : List (Str × Str)} (h : OwG.Fst es) : es.Nodup := by
  induction h with
  | nil => exact .nil
  | cons _ n ih => exact List.nodup_cons.mpr ⟨fun z => n (.one (.inl z)), ih⟩
theorem KrI.nodup {ts es row : List (Str × Str)} {i : Nat} (I : KrI ts es row i) : es.Nodup := by
  have z := (List.reverse_perm es.reverse).symm.nodup (fst_nodup I.fst)
  rw [List.reverse_reverse] at z
  exact z
/-- at the end: a joining tree -/
theorem KrI.tree {ks : List Str} {ts es row : List (Str × Str)} (W : WebOk ks ts) (I : KrI ts es row row.length) (pm : row.Perm ts) {tr : List (Str × Str)} (pt : tr.Perm es) (asc : tr.Pairwise (fun a b => OwL2.ltP a b = true)) : TrOk ks ts tr := by
  have all : ∀ t ∈ ts, OwG.Con es t.1 t.2 := fun t ht => by
    obtain ⟨j, hj, e⟩ := List.getElem_of_mem (pm.mem_iff.mpr ht)
    exact I.done j t hj (by rw [List.getElem?_eq_getElem hj, e])
  have lift : ∀ {x y}, OwG.Con ts x y → OwG.Con es x y := fun h => by
    induction h with
    | here => exact .here
    | on _ e ih => exact ih.trans (e.elim (fun z => all _ z) (fun z => (all _ z).symm))
  have J : OwG.Joins ks es.reverse := ⟨fun t ht => by
    have z := W.ends t (I.sub t (List.mem_reverse.mp ht))
    exact ⟨z.1, z.2.1⟩, fun x hx y hy => con_rev.mpr (lift (W.con x hx y hy))⟩
  have ne : ks ≠ [] := fun e => by
    have z := W.two
    rw [e] at z
    exact absurd z (by decide)
  have n := (OwG.joins_cnt W.knd ne J).2 I.fst
  rw [List.length_reverse] at n
  refine ⟨fun t ht => I.sub t (pt.mem_iff.mp ht), asc, by rw [pt.length_eq]; exact n.symm, fun x hx y hy => (OwG.Con.iff fun t => pt.mem_iff).mpr (lift (W.con x hx y hy))⟩
end OwW


namespace OwW
open PySem PyProof.Rows L2 L2H OwX Rd Evl OwAn
abbrev sLTree : Stmt := top 57
abbrev NTr : List Str := ["_law_dice_here", "_law_plain_here", "_law_found", "_law_tie_here"]
def spLTree : Sp := fun vs H Q _ => ∃ (a d : Addr) (ks : List Str) (zs : TL), vs = [.ref a, .ref d] ∧ HasDice H a ∧ PlainAt (wo a H) d ks zs ∧ WebOk ks (zs.map (·.2)) ∧
  ∀ p H' (es : TL), DX a H H' → wo a H' p = some (.tup (rf es)) → TA (wo a H') es → TrOk ks (zs.map (·.2)) (es.map (·.2)) → Q (.ref p) H'
section
variable {P : Program} {w : World} {K : PySem.W.Frag} {mg : Str → Option Value} {base : Heap}
theorem scLTree : FnScope NTr ["_law_dice_here", "_law_plain_here"] (defScope sLTree) := ⟨rfl, rfl, rfl, by decide +kernel, rfl, by decide +kernel, by decide +kernel⟩
theorem ok_ltree {f : Addr} {fd : FuncData} (F : Fun K "_law_tree" "_law_tree" sLTree f fd) (cM : Cl P w K mg base 2 "_law_mixed" ["_law_dice_here", "_law_items"] spMixed) (cC : Cl P w K mg base 1 "_law_is_closing" ["_law_some", "_law_tie_here"] spClos) (T : BltM mg) : FnOk P w K mg base CX0 3 f fd ["_law_dice_here", "_law_plain_here"] spLTree := by
  have nd := scLTree.nd
  refine F.ok scLTree (fun vs H Q E h => ?_) (fun cdv A outer s H vs Q E hr h => ⟨_, (pss_cons (ps_set (i := 2) nd rfl (Or.inl rfl) (pe_lstN pa_nil))
    (pss_cons (ps_for PassesOwn.never rfl (pi_list (pe_call cM.ok (hr.mono (by decide)) (by rfl) cM.gl cM.kp cM.bd .nil pass0 (pa_cons (pv 0) (pa_cons (pe_dget (units1 hr) (pv 1) pe_str (fun _ _ => rfl)) pa_nil)))) (pg_name (i := 3) nd rfl (Or.inl rfl)) (pss_one (ps_if (pt_not (pt_val (pe_call cC.ok (hr.mono (by decide)) (by rfl) cC.gl cC.kp cC.bd .nil pass0 (pa_cons (pv 2) (pa_cons (pv 3) pa_nil))) (fun _ => rfl))) (pss_one (ps_expr (pe_bm PySem.F.plainAttrs_list PySem.F.slot_list_append PySem.F.type_list_append mt_append (pv 2) (pa_cons (pv 3) pa_nil)))) pss_nil)))
    (pss_one (ps_ret (pe_callTy call_tuple_of (by rfl) T.tuple (by decide +kernel) (pa_cons (pe_callB (OwP.cr_sortTp hr.units) (by rfl) T.sorted (by decide +kernel) (pa_cons (pv 2) pa_nil)) pa_nil)))))), ?_⟩)
  · obtain ⟨a, d, ks, zs, rfl, _⟩ := h
    rfl
  · obtain ⟨a, d, ks, zs, rfl, hd, pl, ok, k⟩ := h
    obtain ⟨⟨kp, tp, h1, h2, h3⟩, ta⟩ := pl
    rw [show L2.start NTr [V.ref a, V.ref d] = [some (.ref a), some (.ref d), none, none] from rfl]
    walk_at "rd"
    refine ⟨small64 (n := 0) (by decide), fun F hF _ => ?_⟩
    have Fa := fresh_ne hd hF
    have x1 : DX a H (upd H F (.lst [])) := DX.of (Ex.new hF) hd
    have f1 : wo a (upd H F (.lst [])) F = some (.lst []) := wo_of upd_same Fa
    generalize upd H F (.lst []) = H1 at x1 f1
    walk_at "rd"
    dsimp only [List.set_cons_succ, List.set_cons_zero]
    with_reducible refine Rd.for' ?_
    unfold iList tDGet
    walk_at "rd"
    refine ⟨d, _, rfl, (pl_get (wo_in a _ _ _ (x1.ex _ _ h1))).2, ?_⟩
    walk_at "rd"
    refine ⟨a, tp, _, rfl, x1.at_, x1.ex _ _ h3, ?_, fun M ys H2 pm x2 hM hMn => ?_⟩
    · have := ok.few
      unfold rf
      rw [List.length_map] at this ⊢
      omega
    obtain ⟨ms, rfl, pmm⟩ := OwP.perm_unmap (fun p : Addr × Str × Str => V.ref p.1) pm zs rfl
    have f2 := x2.ex _ _ f1
    have x12 := x1.trans x2
    have few := ok.few
    have pms : (ms.map (·.2)).Perm (zs.map (·.2)) := pmm.map (·.2)
    have ml : ms.length ≤ 18 := by
      have z := pms.length_eq
      rw [List.length_map] at z
      omega
    have tam : TA (wo a H) ms := fun u hu => ta u (pmm.mem_iff.mp hu)
    refine ⟨M, rfl, ⟨_, SqL.of (wo_in a _ _ _ hM)⟩, ?_⟩
    refine for_it (walk_list (xs := rf ms)) (fun i σ H' => ∃ (es : TL) (x : Option V), σ = [some (.ref a), some (.ref d), some (.ref F), x] ∧ DX a H H' ∧ H' F = some (.lst (rf es)) ∧ H' M = some (.lst (rf ms)) ∧ (∀ u ∈ es, u ∈ ms) ∧ KrI (zs.map (·.2)) (es.map (·.2)) (ms.map (·.2)) i)
      ⟨[], _, rfl, x12, wo_in a _ _ _ f2, wo_in a _ _ _ hM, (fun _ h => nomatch h), KrI.start _ _⟩ (fun i σ Ha _ hP => ?_) (fun i z σ Ha Hb hi hP hY => ?_) (fun σ Ha hP => ?_)
    · obtain ⟨_, _, _, _, _, hm, _⟩ := hP
      exact SqL.of hm
    · obtain ⟨es, x, rfl, xa, fa, ma, es1, KI⟩ := hP
      obtain ⟨rfl, hz⟩ := hY
      rw [List.getElem?_map] at hz
      cases hu : ms[i]? with
      | none => rw [hu] at hz; exact nomatch hz
      | some u =>
        rw [hu] at hz
        cases hz
        have um := List.mem_of_getElem? hu
        have tab : TA Hb ms := fun v hv => wo_in a _ _ _ (xa.ex _ _ (tam v hv))
        have er : (ms.map (·.2))[i]? = some u.2 := by rw [List.getElem?_map, hu]; rfl
        have ue : u.2 ∈ zs.map (·.2) := pms.mem_iff.mp (List.mem_of_getElem? er)
        have ends := fun t (ht : t ∈ zs.map (·.2)) => (⟨(ok.ends t ht).1, (ok.ends t ht).2.1⟩ : t.1 ∈ ks ∧ t.2 ∈ ks)
        have el : es.length ≤ i := by
          have z := KI.len
          rwa [List.length_map] at z
        have i18 : i ≤ 18 := by
          have z : i < (rf ms).length := hi
          unfold rf at z
          rw [List.length_map] at z
          omega
        walk_at "rd"
        dsimp only [List.set_cons_succ, List.set_cons_zero]
        walk_at "rd"
        have n9 := ok.nine
        refine ⟨F, u.1, ks, es, u.2.1, u.2.2, rfl, fa, fun v hv => tab v (es1 v hv), tab u um, ok.names, ok.knd, by omega, by omega, fun t ht => ends t (KI.sub t ht), (ends _ ue).1, (ends _ ue).2, fun H3 c e3 hc => ⟨_, rfl, ?_⟩⟩
        have fa3 := e3 _ _ fa
        have ma3 := e3 _ _ ma
        have xa3 := xa.then e3
        cases c with
        | true =>
          rw [if_neg (by decide)]
          exact ⟨es, _, rfl, xa3, fa3, ma3, es1, KI.skip er (hc.mp rfl)⟩
        | false =>
          rw [if_pos (by decide)]
          walk_at "rd"
          refine ⟨_, rfl, .inl ⟨rfl, _, SqL.of fa3⟩, _, rfl, ?_⟩
          walk_at "rd"
          refine ⟨F, _, .ref u.1, rfl, rfl, fa3, sz_lt (by unfold rf; rw [List.length_map]; omega), ?_⟩
          have nMF : M ≠ F := fun e => by
            have z := wo_in a _ _ _ f1
            rw [← e, hMn] at z
            exact nomatch z
          refine ⟨es ++ [u], _, rfl, xa3.mut hF Fa, ?_, (upd_ne nMF).trans ma3, fun v hv => ?_, ?_⟩
          · rw [upd_same]
            unfold rf
            rw [List.map_append]
            rfl
          · rcases List.mem_append.mp hv with y | y
            · exact es1 v y
            · rw [List.mem_singleton.mp y]
              exact um
          · rw [List.map_append]
            exact KI.add er (fun z => Bool.false_ne_true (hc.mpr z)) ue
    · obtain ⟨es, x, rfl, xa, fa, ma, es1, KI⟩ := hP
      have tab : TA Ha es := fun v hv => wo_in a _ _ _ (xa.ex _ _ (tam v (es1 v hv)))
      rw [show (rf ms).length = (ms.map (·.2)).length by unfold rf; rw [List.length_map, List.length_map]] at KI
      have el : es.length ≤ 18 := by
        have z := KI.len
        rw [List.length_map, List.length_map] at z
        omega
      walk_at "rd"
      refine sort_ties fa tab KI.nodup (by omega) fun S H3 es' e3 hS s3 ta3 pm3 asc => ?_
      walk_at "rd"
      refine ⟨S, _, rfl, .inl ⟨SqL.of s3, fun p hp => ?_⟩⟩
      have x3 := (xa.then e3).then (Ex.new (o := .tup (rf es')) hp)
      have Pa := fresh_ne (xa.then e3).at_ hp
      refine k p _ es' x3 (wo_of upd_same Pa) (fun v hv => ?_) (KI.tree ok pms (pm3.map (·.2)) asc)
      exact x3.ex _ _ (tam v (es1 v (pm3.mem_iff.mp hv)))
end
end OwW

/-! a tie in a list or a tuple of ties; ties and rows of ties compared. -/
namespace OwW
open PySem PySem.Spec PyProof.Rows L2 L2H OwX Rd Evl OwAn
def okP (t : Str × Str) : Prop := nameB t.1 = true ∧ nameB t.2 = true
theorem dp_pr {K : PySem.W.Frag} {H : Hp} {p : Addr} {t : Str × Str} (h : H p = some (.tup [.str t.1, .str t.2])) : Dp K H (.ref p) (pairD t) := .tup (SqT.of h) (.cons (.str _) (.cons (.str _) .nil))
theorem sh_pr {t : Str × Str} (h : okP t) : SeqAt.shaped (pairD t) = true := shaped_tup (ss := [t.1, t.2]) fun s hs => by
  rcases List.mem_cons.mp hs with e | e
  · rw [e]; exact h.1
  · rw [List.mem_singleton.mp e]; exact h.2
theorem eqv_pr (t u : Str × Str) : PyData.eqv (pairD t) (pairD u) = decide (t = u) := by
  have z := eqvAll_pairs [t] [u]
  simp [PyData.eqvAll] at z
  rw [z]
theorem any_pr (t : Str × Str) : ∀ l : List (Str × Str), ((l.map pairD).any fun z => PyData.eqv z (pairD t)) = decide (t ∈ l)
  | [] => rfl
  | u :: l => by
    rw [List.map_cons, List.any_cons, any_pr t l, eqv_pr]
    by_cases c : u = t
    · subst c; simp
    · have c' : ¬ t = u := fun e => c e.symm
      by_cases d : t ∈ l <;> simp [c, c', d]
section
variable {X : Cx}
def rInTs (neg : Bool) : R2 := fun x y H Q => ∃ (p c : Addr) (t : Str × Str) (l : TL), x = .ref p ∧ y = .ref c ∧ H p = some (.tup [.str t.1, .str t.2]) ∧ (H c = some (.lst (rf l)) ∨ H c = some (.tup (rf l))) ∧ TA H l ∧ okP t ∧ (∀ u ∈ l.map (·.2), okP u) ∧ Q (.bl (if neg = true then !decide (t ∈ l.map (·.2)) else decide (t ∈ l.map (·.2)))) H
theorem op_inTs (hu : X.A.units + 65 < cLine) : OpR X (compareOp .In) (rInTs false) := by
  intro pins s σ H x y v u Q I rx ry h
  obtain ⟨p, c, t, l, rfl, rfl, hp, hc, ta, ot, ol, q⟩ := h
  obtain ⟨as, r1⟩ := Dp.reads I (pairD t) (.ref p) v (dp_pr hp) rx
  rw [if_neg (by decide), ← any_pr] at q
  rcases hc with hc | hc
  · obtain ⟨bs, r2⟩ := Dp.reads I (.list ((l.map (·.2)).map pairD)) (.ref c) u (.lst (SqL.of hc) (dp_pairs ta)) ry
    exact SeqAt.in_list_reads r2 r1 (SeqAt.canLay_of_shaped (shaped_pairs ol)) (SeqAt.canLay_of_shaped (sh_pr ot)) (room_in_shaped (sh_pr ot) hu) ⟨.bl _, H, I, rfl, q⟩
  · obtain ⟨bs, r2⟩ := Dp.reads I (.tuple ((l.map (·.2)).map pairD)) (.ref c) u (.tup (SqT.of hc) (dp_pairs ta)) ry
    exact SeqAt.in_tuple_reads r2 r1 (SeqAt.canLay_of_shaped (shaped_pairsT ol)) (SeqAt.canLay_of_shaped (sh_pr ot)) (room_in_shaped (sh_pr ot) hu) ⟨.bl _, H, I, rfl, q⟩
theorem op_ninTs (hu : X.A.units + 65 < cLine) : OpR X (compareOp .NotIn) (rInTs true) := by
  intro pins s σ H x y v u Q I rx ry h
  obtain ⟨p, c, t, l, rfl, rfl, hp, hc, ta, ot, ol, q⟩ := h
  obtain ⟨as, r1⟩ := Dp.reads I (pairD t) (.ref p) v (dp_pr hp) rx
  rw [if_pos rfl, ← any_pr] at q
  rcases hc with hc | hc
  · obtain ⟨bs, r2⟩ := Dp.reads I (.list ((l.map (·.2)).map pairD)) (.ref c) u (.lst (SqL.of hc) (dp_pairs ta)) ry
    exact SeqAt.notIn_list_reads r2 r1 (SeqAt.canLay_of_shaped (shaped_pairs ol)) (SeqAt.canLay_of_shaped (sh_pr ot)) (room_in_shaped (sh_pr ot) hu) ⟨.bl _, H, I, rfl, q⟩
  · obtain ⟨bs, r2⟩ := Dp.reads I (.tuple ((l.map (·.2)).map pairD)) (.ref c) u (.tup (SqT.of hc) (dp_pairs ta)) ry
    exact SeqAt.notIn_tuple_reads r2 r1 (SeqAt.canLay_of_shaped (shaped_pairsT ol)) (SeqAt.canLay_of_shaped (sh_pr ot)) (room_in_shaped (sh_pr ot) hu) ⟨.bl _, H, I, rfl, q⟩
end
theorem inTs_of {neg : Bool} {H : Hp} {p c : Addr} {t : Str × Str} {l : TL} {Q : VK} (hp : H p = some (.tup [.str t.1, .str t.2])) (hc : H c = some (.lst (rf l)) ∨ H c = some (.tup (rf l))) (ta : TA H l) (ot : okP t) (ol : ∀ u ∈ l.map (·.2), okP u) (q : Q (.bl (if neg = true then !decide (t ∈ l.map (·.2)) else decide (t ∈ l.map (·.2)))) H) : rInTs neg (.ref p) (.ref c) H Q :=
  ⟨p, c, t, l, rfl, rfl, hp, hc, ta, ot, ol, q⟩
theorem eqPr_of {K : PySem.W.Frag} {H : Hp} {p c : Addr} {t u : Str × Str} {Q : VK} (hp : H p = some (.tup [.str t.1, .str t.2])) (hc : H c = some (.tup [.str u.1, .str u.2])) (ot : okP t) (ou : okP u) (q : Q (.bl (decide (t = u))) H) : rEqD K (.ref p) (.ref c) H Q :=
  ⟨_, _, dp_pr hp, dp_pr hc, sh_pr ot, sh_pr ou, by rw [eqv_pr]; exact q⟩
theorem nePr_of {K : PySem.W.Frag} {H : Hp} {p c : Addr} {t u : Str × Str} {Q : VK} (hp : H p = some (.tup [.str t.1, .str t.2])) (hc : H c = some (.tup [.str u.1, .str u.2])) (ot : okP t) (ou : okP u) (q : Q (.bl (!decide (t = u))) H) : rNeD K (.ref p) (.ref c) H Q :=
  ⟨_, _, dp_pr hp, dp_pr hc, sh_pr ot, sh_pr ou, by rw [eqv_pr]; exact q⟩
theorem WebOk.okP {ks : List Str} {ts : List (Str × Str)} (W : WebOk ks ts) : ∀ t ∈ ts, okP t := fun t ht => ⟨W.names _ (W.ends t ht).1, W.names _ (W.ends t ht).2.1⟩
end OwW


namespace OwW
open PySem PyProof.Rows L2 L2H OwX Rd Evl OwAn
/-- a list or a tuple of ties -/
def TsAt (H : Hp) (p : Addr) (ys : TL) : Prop := H p = some (.lst (rf ys)) ∨ H p = some (.tup (rf ys))
theorem TsAt.ex {H H' : Hp} {p : Addr} {ys : TL} (e : Ex H H') (h : TsAt H p ys) : TsAt H' p ys := h.imp (e _ _) (e _ _)
def spEndsA : Sp := fun vs H Q _ => ∃ (p : Addr) (ys : TL) (x : Str), vs = [.ref p, .str x] ∧ TsAt H p ys ∧ TA H ys ∧ ys.length < 64 ∧ ∀ es : List Str, es.Perm (endsL (ys.map (·.2)) x) → sortedS es = true → ∀ q H', Ex H H' → H' q = some (.tup (es.map V.str)) → Q (.ref q) H'
def spReachA : Sp := fun vs H Q _ => ∃ (p : Addr) (ys : TL) (x : Str) (ns : List Str), vs = [.ref p, .str x] ∧ TsAt H p ys ∧ TA H ys ∧ ys.length < 64 ∧ ns.length < 64 ∧ x ∈ ns ∧ (∀ t ∈ ys, t.2.1 ∈ ns ∧ t.2.2 ∈ ns) ∧
  ∀ ks : List Str, sortedS ks = true → ks.Nodup → (∀ k, k ∈ ks ↔ Rch (ys.map (·.2)) x k) → ∀ q H', Ex H H' → H' q = some (.tup (ks.map V.str)) → Q (.ref q) H'
section
variable {P : Program} {w : World} {K : PySem.W.Frag} {mg : Str → Option Value} {base : Heap}
theorem ok_endsA {f : Addr} {fd : FuncData} (F : Fun K "_ends_off" "_ends_off" sEnds f fd) (T : BltB mg) : FnOk P w K mg base CX0 1 f fd ["ties", "place"] spEndsA := by
  have nd := scEnds.nd
  refine F.ok scEnds (fun vs H Q E h => ?_) (fun cdv A outer s H vs Q E hr h => ⟨_, (pss_one (ps_ret (pe_callTy call_tuple_of (by rfl) T.tuple (by decide +kernel) (pa_cons (pe_callB cr_sortedS (by rfl) T.sorted (by decide +kernel) (pa_cons (pe_lc (own := [("a", 2), ("b", 3)]) (g := gTup K 2 (gCons (gName 2) (gCons (gName 3) gNil))) (tt := tTest (tOp (rIn K false) (tVar 1) (tTup (tCons (tVar 2) (tCons (tVar 3) tNil))))) rfl nd (pi_any (pv 0)) (blkOk_by (own := [("a", 2), ("b", 3)]) (N := NEn) (sc := defScope sEnds) (by decide +kernel)) (fun _ _ _ _ _ => (pg_tup rfl (pgs_cons (pg_name (i := 2) nd rfl (Or.inl rfl)) (pgs_cons (pg_name (i := 3) nd rfl (Or.inl rfl)) pgs_nil)))) (fun _ _ _ _ _ => (pts_one (pt_cmpR op_in_seq (pv 1) (pe_tup (pa_cons (pv 2) (pa_cons (pv 3) pa_nil))) (by with_unfolding_all rfl)))) (fun _ _ _ _ _ => (pe_ifExp (pt_cmpR op_eq (pv 2) (pv 1) (nomark _)) (pv 3) (pv 2)))) pa_nil)) pa_nil)))), ?_⟩)
  · obtain ⟨p, ys, x, rfl, _⟩ := h
    rfl
  · obtain ⟨p, ys, x, rfl, hp, ta, hl, k⟩ := h
    walk_at "rd"
    refine Rd.lcm' ?_
    rcases hp with hp | hp
    · refine ⟨_, rfl, p, rfl, .inl ⟨⟨rf ys, SqL.of hp⟩, fun D hD => ?_⟩⟩
      have lrf : (rf ys).length = ys.length := by rw [List.length_map]
      refine Rd.lc_keepG (walk_list (xs := rf ys)) (fun i => hits x ((ys.map (·.2)).getD i (("" : Str), ("" : Str)))) (fun i => V.str (far x ((ys.map (·.2)).getD i (("" : Str), ("" : Str))))) hD (by omega) (fun H' e => ex_l e (SqL.of hp)) (fun i y Ha Hb B hi ea y1 hB => ?_) (fun H2 e2 h2 => ?_)
      · obtain ⟨rfl, y2⟩ := y1
        rw [List.getElem?_map] at y2
        cases ht : ys[i]? with
        | none => rw [ht] at y2; exact nomatch y2
        | some t =>
          rw [ht] at y2
          cases y2
          have et : (ys.map (·.2)).getD i (("" : Str), ("" : Str)) = t.2 := by rw [List.getD_eq_getElem?_getD, List.getElem?_map, ht]; rfl
          rw [et] at hB
          have ht' := ta.ex ea t (List.mem_of_getElem? ht)
          obtain ⟨ti, a, b⟩ := t
          refine ⟨ti, [.str a, .str b], rfl, SqT.of ht', rfl, .str a, [.str b], rfl, ?_⟩
          walk_at "rd"
          refine ⟨.str b, [], rfl, ?_⟩
          walk_at "rd"
          refine ⟨rfl, ?_⟩
          show _ ∧ _
          refine ⟨rfl, ?_⟩
          walk_at "rd"
          refine ⟨small64 (n := 2) (by decide), fun t ht2 => ⟨t, [.str a, .str b], rfl, Or.inr (SqT.of upd_same), rfl, rfl, _, rfl, ?_⟩⟩
          have eh : inV (.str x) [.str a, .str b] = hits x (a, b) := by
            show ((a == x) || ((b == x) || false)) = (decide (a = x) || decide (b = x))
            rw [Bool.or_false]
            by_cases c : a = x <;> by_cases d : b = x <;> simp [c, d]
          show B _ (inV (.str x) [.str a, .str b]) _
          rw [eh]
          refine hB _ _ (Ex.new ht2) fun _ R hR => ?_
          walk_at "rd"
          refine Rd.eq rfl ⟨_, rfl, ?_⟩
          refine ite2 (fun c => ?_) (fun c => ?_)
          · have c' : a = x := by
              have z := of_decide_eq_true c
              exact V.str.inj z
            walk_at "rd"
            have z := hR (upd Hb t (.tup [.str a, .str b])) (Ex.new ht2)
            have ef : far x (a, b) = b := if_pos c'
            rw [ef] at z
            exact z
          · have c' : ¬ a = x := fun z => c (decide_eq_true (by rw [z]))
            walk_at "rd"
            have z := hR (upd Hb t (.tup [.str a, .str b])) (Ex.new ht2)
            have ef : far x (a, b) = a := if_neg c'
            rw [ef] at z
            exact z
      · walk_at "rd"
        rw [lrf, ← List.length_map (as := ys) (·.2)] at h2
        have h2' : H2 D = some (.lst ((endsL (ys.map (·.2)) x).map V.str)) := by
          rw [h2]
          unfold endsL
          rw [← range_filter (ys.map (·.2)) (("" : Str), ("" : Str)) (hits x), List.map_map, List.map_map]
          rfl
        have ln : (endsL (ys.map (·.2)) x).length < 64 := by
          have z := List.length_filter_le (hits x) (ys.map (·.2))
          unfold endsL
          rw [List.length_map] at z ⊢
          omega
        refine ⟨D, endsL (ys.map (·.2)) x, rfl, SqL.of h2', ln, fun es q pm so hq => ?_⟩
        walk_at "rd"
        exact ⟨q, es.map V.str, rfl, Or.inl ⟨SqL.of upd_same, fun l hl => k es pm so l _ ((e2.trans (Ex.new hq)).trans (Ex.new hl)) upd_same⟩⟩
    · refine ⟨_, rfl, p, rfl, .inr ⟨⟨rf ys, SqT.of hp⟩, fun D hD => ?_⟩⟩
      have lrf : (rf ys).length = ys.length := by rw [List.length_map]
      refine Rd.lc_keepG (walk_tup (xs := rf ys)) (fun i => hits x ((ys.map (·.2)).getD i (("" : Str), ("" : Str)))) (fun i => V.str (far x ((ys.map (·.2)).getD i (("" : Str), ("" : Str))))) hD (by omega) (fun H' e => ex_t e (SqT.of hp)) (fun i y Ha Hb B hi ea y1 hB => ?_) (fun H2 e2 h2 => ?_)
      · obtain ⟨rfl, y2⟩ := y1
        rw [List.getElem?_map] at y2
        cases ht : ys[i]? with
        | none => rw [ht] at y2; exact nomatch y2
        | some t =>
          rw [ht] at y2
          cases y2
          have et : (ys.map (·.2)).getD i (("" : Str), ("" : Str)) = t.2 := by rw [List.getD_eq_getElem?_getD, List.getElem?_map, ht]; rfl
          rw [et] at hB
          have ht' := ta.ex ea t (List.mem_of_getElem? ht)
          obtain ⟨ti, a, b⟩ := t
          refine ⟨ti, [.str a, .str b], rfl, SqT.of ht', rfl, .str a, [.str b], rfl, ?_⟩
          walk_at "rd"
          refine ⟨.str b, [], rfl, ?_⟩
          walk_at "rd"
          refine ⟨rfl, ?_⟩
          show _ ∧ _
          refine ⟨rfl, ?_⟩
          walk_at "rd"
          refine ⟨small64 (n := 2) (by decide), fun t ht2 => ⟨t, [.str a, .str b], rfl, Or.inr (SqT.of upd_same), rfl, rfl, _, rfl, ?_⟩⟩
          have eh : inV (.str x) [.str a, .str b] = hits x (a, b) := by
            show ((a == x) || ((b == x) || false)) = (decide (a = x) || decide (b = x))
            rw [Bool.or_false]
            by_cases c : a = x <;> by_cases d : b = x <;> simp [c, d]
          show B _ (inV (.str x) [.str a, .str b]) _
          rw [eh]
          refine hB _ _ (Ex.new ht2) fun _ R hR => ?_
          walk_at "rd"
          refine Rd.eq rfl ⟨_, rfl, ?_⟩
          refine ite2 (fun c => ?_) (fun c => ?_)
          · have c' : a = x := by
              have z := of_decide_eq_true c
              exact V.str.inj z
            walk_at "rd"
            have z := hR (upd Hb t (.tup [.str a, .str b])) (Ex.new ht2)
            have ef : far x (a, b) = b := if_pos c'
            rw [ef] at z
            exact z
          · have c' : ¬ a = x := fun z => c (decide_eq_true (by rw [z]))
            walk_at "rd"
            have z := hR (upd Hb t (.tup [.str a, .str b])) (Ex.new ht2)
            have ef : far x (a, b) = a := if_neg c'
            rw [ef] at z
            exact z
      · walk_at "rd"
        rw [lrf, ← List.length_map (as := ys) (·.2)] at h2
        have h2' : H2 D = some (.lst ((endsL (ys.map (·.2)) x).map V.str)) := by
          rw [h2]
          unfold endsL
          rw [← range_filter (ys.map (·.2)) (("" : Str), ("" : Str)) (hits x), List.map_map, List.map_map]
          rfl
        have ln : (endsL (ys.map (·.2)) x).length < 64 := by
          have z := List.length_filter_le (hits x) (ys.map (·.2))
          unfold endsL
          rw [List.length_map] at z ⊢
          omega
        refine ⟨D, endsL (ys.map (·.2)) x, rfl, SqL.of h2', ln, fun es q pm so hq => ?_⟩
        walk_at "rd"
        exact ⟨q, es.map V.str, rfl, Or.inl ⟨SqL.of upd_same, fun l hl => k es pm so l _ ((e2.trans (Ex.new hq)).trans (Ex.new hl)) upd_same⟩⟩
theorem ok_reachA {f g : Addr} {fd gd : FuncData} (F : Fun K "reached_along" "reached_along" sReach f fd) (FE : Fun K "_ends_off" "_ends_off" sEnds g gd) (gE : mg "_ends_off" = some (.ref g)) (GE : FnOk P w K mg base CX0 1 g gd ["ties", "place"] spEndsA) (T : BltB mg) : FnOk P w K mg base CX0 2 f fd ["ties", "place"] spReachA := by
  have nd := scReach.nd
  have bE : Binds K gd ["ties", "place"] [] := FE.binds fun _ _ _ _ _ _ us hl => match us, hl with | [_, _], _ => rfl
  refine F.ok scReach (fun vs H Q E h => ?_) (fun cdv A outer s H vs Q E hr h => ⟨_, (pss_cons (ps_set (i := 2) nd rfl (Or.inl rfl) (pe_disp (pps_cons (pv 1) pe_bl pps_nil) (by rfl) (by rfl) (fun z => by cases z) (by decide)))
    (pss_cons (ps_set (i := 3) nd rfl (Or.inl rfl) (pe_lst (pa_cons (pv 1) pa_nil)))
    (pss_cons (ps_while PassesOwn.never (pt_truth (pv 3) (fun _ => rfl)) (pss_cons (ps_set (i := 4) nd rfl (Or.inl rfl) (pe_bm0 PySem.F.plainAttrs_list PySem.F.slot_list_pop PySem.F.type_list_pop mt_pop (pv 3)))
    (pss_one (ps_for PassesOwn.never rfl (pi_tup (pe_call GE (hr.mono (by decide)) (by rfl) gE FE.kp bE .nil pass0 (pa_cons (pv 0) (pa_cons (pv 4) pa_nil)))) (pg_name (i := 5) nd rfl (Or.inl rfl)) (pss_one (ps_if (pt_cmp (pc_dnotin (units1 hr) (pv 5) (pv 2))) (pss_cons (ps_dput (units1 hr) (pv 2) (pv 5) pe_bl rfl)
    (pss_one (ps_expr (pe_bm PySem.F.plainAttrs_list PySem.F.slot_list_append PySem.F.type_list_append mt_append (pv 3) (pa_cons (pv 5) pa_nil))))) pss_nil))))))
    (pss_one (ps_ret (pe_callTy call_tuple_of (by rfl) T.tuple (by decide +kernel) (pa_cons (pe_callB (call_sortedD rfl) (by rfl) T.sorted (by decide +kernel) (pa_cons (pv 2) pa_nil)) pa_nil))))))), ?_⟩)
  · obtain ⟨p, ys, x, ns, rfl, _⟩ := h
    rfl
  · obtain ⟨p, ys, x, ns, rfl, hp, ta, hl, hn, hx, hin, k⟩ := h
    walk_at "rd"
    refine fun D1 hD1 => ?_
    walk_at "rd"
    refine ⟨_, rfl, ?_⟩
    walk_at "rd"
    refine ⟨upd_same, [(Sum.inr x, V.bl true)], rfl, Nat.le_add_left _ _, ?_⟩
    walk_at "rd"
    refine ⟨small64 (n := 1) (by decide), fun D2 hD2 => ?_⟩
    have n21 : D2 ≠ D1 := fun e => by
      rw [e, upd_same] at hD2
      exact nomatch hD2
    have hD2' : H D2 = none := by
      rw [upd_ne n21, upd_ne n21] at hD2
      exact hD2
    have I0 : RI H D1 D2 (ys.map (·.2)) x ns [x] [x] (upd (upd (upd H D1 (.dK [])) D1 (.dK (mergeK [] [(Sum.inr x, V.bl true)]))) D2 (.lst [V.str x])) :=
      ⟨(((Ex.refl H).mut hD1).mut hD1).mut hD2', by rw [upd_ne (Ne.symm n21), upd_same]; rfl, upd_same, by simp, fun r hr => by rw [List.mem_singleton.mp hr]; exact hx, fun r hr => by rw [List.mem_singleton.mp hr]; exact .here, List.mem_singleton.mpr rfl, fun r hr => hr, Nat.le_refl _⟩
    generalize upd (upd (upd H D1 (.dK [])) D1 (.dK (mergeK [] [(Sum.inr x, V.bl true)]))) D2 (.lst [V.str x]) = H2 at I0 ⊢
    clear hD2
    walk_at "rd"
    refine ⟨fun m σ H' => ∃ (R T : List Str) (h o : Option V), σ = [some (.ref p), some (.str x), some (.ref D1), some (.ref D2), h, o] ∧ RI H D1 D2 (ys.map (·.2)) x ns R T H' ∧ (∀ r ∈ R, r ∈ T ∨ ∀ b ∈ endsL (ys.map (·.2)) r, b ∈ R) ∧ m = 2 * (64 - R.length) + T.length, ⟨_, [x], [x], none, none, rfl, I0, fun r hr => Or.inl hr, rfl⟩, ?_⟩
    rintro m σ H' ⟨R, T, h, o, rfl, I, cl, rfl⟩
    walk_at "rd"
    refine ⟨_, Or.inl ⟨_, SqL.of I.d2, rfl⟩, ?_⟩
    rcases List.eq_nil_or_concat T with rfl | ⟨T', t, rfl⟩
    · rw [if_neg (by simp)]
      walk_at "rd"
      have rl := nodup_le R ns I.nd I.sub
      refine ⟨D1, kd R, R, rfl, .inl I.d1, by unfold kd; rw [List.map_map]; rfl, by omega, fun ks q pm so hq => ?_⟩
      walk_at "rd"
      refine ⟨q, ks.map V.str, rfl, Or.inl ⟨SqL.of upd_same, fun l hl2 => ?_⟩⟩
      refine k ks so (pm.symm.nodup I.nd) (fun z => ⟨fun hz => I.rch z (pm.mem_iff.mp hz), fun hz => pm.mem_iff.mpr ?_⟩) l _ ((I.ex.trans (Ex.new hq)).trans (Ex.new hl2)) upd_same
      induction hz with
      | here => exact I.at_
      | on _ hb ih => exact ((cl _ ih).resolve_left (fun z => nomatch z)) _ hb
    · rw [List.concat_eq_append] at I cl ⊢
      rw [if_pos (by simp)]
      refine ⟨_, fun σ' H' h => h, ?_⟩
      refine ⟨_, rfl, Or.inl ⟨rfl, _, SqL.of I.d2⟩, ?_⟩
      have dl : ((T' ++ [t]).map V.str).dropLast = T'.map V.str := by rw [List.map_append]; exact List.dropLast_concat
      refine ⟨D2, _, .str t, rfl, rfl, I.d2, ?_, ?_⟩
      · rw [List.map_append, List.length_append]
        simp
      rw [dl]
      have tR := I.todo t (List.mem_append_right _ List.mem_cons_self)
      have tl := I.tl
      rw [List.length_append] at tl
      have Iq : RI H D1 D2 (ys.map (·.2)) x ns R T' (upd H' D2 (.lst (T'.map V.str))) :=
        ⟨I.ex.mut hD2', by rw [upd_ne (Ne.symm n21)]; exact I.d1, upd_same, I.nd, I.sub, I.rch, I.at_, fun r hr => I.todo r (List.mem_append_left _ hr), by omega⟩
      generalize upd H' D2 (.lst (T'.map V.str)) = H3 at Iq ⊢
      walk_at "rd"
      with_reducible refine Rd.for' ?_
      show tCall _ _ _ _ _ _ _
      walk_at "rd"
      refine ⟨p, ys, t, rfl, hp.ex Iq.ex, ta.ex Iq.ex, hl, fun es pm so q H4 e4 hq => ?_⟩
      have I4 : RI H D1 D2 (ys.map (·.2)) x ns R T' H4 := ⟨Iq.ex.trans e4, e4 _ _ Iq.d1, e4 _ _ Iq.d2, Iq.nd, Iq.sub, Iq.rch, Iq.at_, Iq.todo, Iq.tl⟩
      refine ⟨q, rfl, ⟨_, SqT.of hq⟩, ?_⟩
      have c0 : ∀ r ∈ R, r ∈ T' ∨ r = t ∨ ∀ b ∈ endsL (ys.map (·.2)) r, b ∈ R := fun r hr => by
        rcases cl r hr with z | z
        · rcases List.mem_append.mp z with z | z
          · exact Or.inl z
          · exact Or.inr (Or.inl (List.mem_singleton.mp z))
        · exact Or.inr (Or.inr z)
      refine for_it (walk_tup (xs := es.map V.str)) (fun i σ H' => ∃ (R2 T2 : List Str) (o : Option V), σ = [some (.ref p), some (.str x), some (.ref D1), some (.ref D2), some (.str t), o] ∧ RI H D1 D2 (ys.map (·.2)) x ns R2 T2 H' ∧ H' q = some (.tup (es.map V.str)) ∧ (∀ r ∈ R, r ∈ R2) ∧ (∀ r ∈ R2, r ∈ T2 ∨ r = t ∨ ∀ b ∈ endsL (ys.map (·.2)) r, b ∈ R2) ∧ (∀ (j : Nat) (b : Str), j < i → es[j]? = some b → b ∈ R2) ∧ 2 * (64 - R2.length) + T2.length ≤ 2 * (64 - R.length) + T'.length)
        ⟨R, T', o, rfl, I4, hq, fun _ h => h, c0, fun _ _ h => absurd h (Nat.not_lt_zero _), Nat.le_refl _⟩ (fun i σ H' _ hP => ?_) (fun i z σ H5 H6 hi hP hY => ?_) (fun σ H5 hP => ?_)
      · obtain ⟨R2, T2, o, rfl, I5, hq5, _⟩ := hP
        exact SqT.of hq5
      · obtain ⟨R2, T2, o, rfl, I5, hq5, sR, c5, d5, me⟩ := hP
        obtain ⟨rfl, hz⟩ := hY
        rw [List.getElem?_map] at hz
        cases hb : es[i]? with
        | none => rw [hb] at hz; exact nomatch hz
        | some b =>
          rw [hb] at hz
          cases hz
          have bE' : b ∈ endsL (ys.map (·.2)) t := pm.mem_iff.mp (List.mem_of_getElem? hb)
          have bn := ends_in hin bE'
          have rl := nodup_le R2 ns I5.nd I5.sub
          have t2 := I5.tl
          walk_at "rd"
          refine ⟨_, rfl, ?_⟩
          walk_at "rd"
          refine ⟨D1, _, rfl, DGet.k (k := Sum.inr b) I5.d1, ?_⟩
          rw [kd_in]
          by_cases c : b ∈ R2
          · rw [decide_eq_true c]
            walk_at "rd"
            rw [if_neg (by decide)]
            walk_at "rd"
            refine ⟨R2, T2, _, rfl, I5, hq5, sR, c5, fun j b' hj hb' => ?_, me⟩
            rcases Nat.lt_or_eq_of_le (Nat.le_of_lt_succ hj) with z | z
            · exact d5 j b' z hb'
            · subst z
              rw [hb] at hb'
              cases hb'
              exact c
          · rw [decide_eq_false c]
            walk_at "rd"
            rw [if_pos (by decide)]
            walk_at "rd"
            refine ⟨_, rfl, ?_⟩
            walk_at "rd"
            refine ⟨D1, _, rfl, DPut.k (k := Sum.inr b) I5.d1 ?_, ?_⟩
            · unfold kd
              rw [List.length_map]
              exact sz_lt (by omega)
            rw [kd_put c]
            walk_at "rd"
            have nq1 : q ≠ D1 := fun e => by
              rw [e, I5.d1] at hq5
              exact nomatch hq5
            have nq2 : q ≠ D2 := fun e => by
              rw [e, I5.d2] at hq5
              exact nomatch hq5
            have g1 : (upd H6 D1 (.dK (kd (R2 ++ [b])))) D1 = some (.dK (kd (R2 ++ [b]))) := upd_same
            have g2 : (upd H6 D1 (.dK (kd (R2 ++ [b])))) D2 = some (.lst (T2.map V.str)) := (upd_ne n21).trans I5.d2
            have gq : (upd H6 D1 (.dK (kd (R2 ++ [b])))) q = some (.tup (es.map V.str)) := (upd_ne nq1).trans hq5
            have ge : Ex H (upd H6 D1 (.dK (kd (R2 ++ [b])))) := I5.ex.mut hD1
            generalize upd H6 D1 (.dK (kd (R2 ++ [b]))) = H7 at g1 g2 gq ge ⊢
            refine ⟨_, rfl, Or.inl ⟨rfl, _, SqL.of g2⟩, ?_⟩
            walk_at "rd"
            refine ⟨D2, T2.map V.str, .str b, rfl, rfl, g2, ?_, ?_⟩
            · rw [List.length_map]
              exact sz_lt (by omega)
            have nd2 : (R2 ++ [b]).Nodup := List.nodup_append.mpr ⟨I5.nd, by simp, fun a ha c' hc e => c (by rw [← List.mem_singleton.mp hc, ← e]; exact ha)⟩
            have sub2 : ∀ r ∈ R2 ++ [b], r ∈ ns := fun r hr => by
              rcases List.mem_append.mp hr with z | z
              · exact I5.sub r z
              · rw [List.mem_singleton.mp z]
                exact bn
            have rl2 := nodup_le _ ns nd2 sub2
            rw [List.length_append] at rl2
            have rl3 : R2.length + 1 ≤ ns.length := rl2
            refine ⟨R2 ++ [b], T2 ++ [b], _, rfl, ⟨ge.mut hD2', (upd_ne (Ne.symm n21)).trans g1, by rw [List.map_append]; exact upd_same, nd2, sub2, fun r hr => ?_, List.mem_append_left _ I5.at_, fun r hr => ?_, ?_⟩, (upd_ne nq2).trans gq, fun r hr => List.mem_append_left _ (sR r hr), fun r hr => ?_, fun j b' hj hb' => ?_, ?_⟩
            · rcases List.mem_append.mp hr with z | z
              · exact I5.rch r z
              · rw [List.mem_singleton.mp z]
                exact .on (I5.rch t (sR t tR)) bE'
            · rcases List.mem_append.mp hr with z | z
              · exact List.mem_append_left _ (I5.todo r z)
              · exact List.mem_append_right _ z
            · rw [List.length_append, List.length_append]
              exact Nat.add_le_add_right t2 _
            · rcases List.mem_append.mp hr with z | z
              · rcases c5 r z with y | y | y
                · exact Or.inl (List.mem_append_left _ y)
                · exact Or.inr (Or.inl y)
                · exact Or.inr (Or.inr fun b' hb' => List.mem_append_left _ (y b' hb'))
              · exact Or.inl (List.mem_append_right _ z)
            · rcases Nat.lt_or_eq_of_le (Nat.le_of_lt_succ hj) with z | z
              · exact List.mem_append_left _ (d5 j b' z hb')
              · subst z
                rw [hb] at hb'
                cases hb'
                exact List.mem_append_right _ (List.mem_singleton.mpr rfl)
            · rw [List.length_append, List.length_append]
              show 2 * (64 - (R2.length + 1)) + (T2.length + 1) ≤ _
              omega
      · obtain ⟨R2, T2, o, rfl, I5, hq5, sR, c5, d5, me⟩ := hP
        rw [List.length_map] at d5
        refine ⟨_, ?_, R2, T2, _, o, rfl, I5, fun r hr => ?_, rfl⟩
        · rw [List.length_append]
          show _ < _ + (_ + 1)
          omega
        · rcases c5 r hr with z | z | z
          · exact Or.inl z
          · subst z
            refine Or.inr fun b hb => ?_
            obtain ⟨j, hj⟩ := List.getElem?_of_mem (pm.mem_iff.mpr hb)
            exact d5 j b (List.getElem?_eq_some_iff.mp hj).1 hj
          · exact Or.inr z
end
end OwW


namespace OwW
open PySem PyProof.Rows L2 L2H OwX Rd Evl OwAn
abbrev sIJT : Stmt := top 30
abbrev sNeedT : Stmt := top 36
abbrev sNeedOn : Stmt := top 37
abbrev sNeedOff : Stmt := top 38
abbrev NIj : List Str := ["web", "value", "tie"]
abbrev NNf : List Str := ["web", "tree", "tie"]
def spIJT (CW : Addr) : Sp := fun vs H Q _ => ∃ (wb p : Addr) (ks : List Str) (ys zs : TL), vs = [.ref wb, .ref p] ∧ IsWeb CW H wb ks ys ∧ H p = some (.tup (rf zs)) ∧ TA H zs ∧ (∀ t ∈ zs.map (·.2), t ∈ ys.map (·.2)) ∧ (zs.map (·.2)).Pairwise (fun a b => OwL2.ltP a b = true) ∧ zs.length + 1 = ks.length ∧
  ∀ H' c, Ex H H' → (c = true ↔ ∀ x ∈ ks, ∀ y ∈ ks, OwG.Con (zs.map (·.2)) x y) → Q (.bl c) H'
/-- a joining tree of the web at wb lies at p -/
structure TreeAt (CW : Addr) (H : Hp) (wb p : Addr) (ks : List Str) (ys zs : TL) : Prop where
  web : IsWeb CW H wb ks ys
  at_ : H p = some (.tup (rf zs))
  ta : TA H zs
  tr : TrOk ks (ys.map (·.2)) (zs.map (·.2))
theorem TreeAt.ex {CW : Addr} {H H' : Hp} {wb p : Addr} {ks : List Str} {ys zs : TL} (t : TreeAt CW H wb p ks ys zs) (e : Ex H H') : TreeAt CW H' wb p ks ys zs := ⟨t.web.ex e, e _ _ t.at_, t.ta.ex e, t.tr⟩
theorem TreeAt.few {CW : Addr} {H : Hp} {wb p : Addr} {ks : List Str} {ys zs : TL} (t : TreeAt CW H wb p ks ys zs) : zs.length ≤ 8 := by
  have a := t.tr.len
  have b := t.web.ok.nine
  rw [List.length_map] at a
  omega
theorem TreeAt.okP {CW : Addr} {H : Hp} {wb p : Addr} {ks : List Str} {ys zs : TL} (t : TreeAt CW H wb p ks ys zs) : ∀ u ∈ zs.map (·.2), okP u := fun u hu => t.web.ok.okP u (t.tr.sub u hu)
def PairAt (H : Hp) (o : Addr) (t : Str × Str) : Prop := H o = some (.tup [.str t.1, .str t.2])
def spNeedT (CW : Addr) : Sp := fun vs H Q _ => ∃ (wb p : Addr) (ks : List Str) (ys zs : TL), vs = [.ref wb, .ref p] ∧ TreeAt CW H wb p ks ys zs ∧ ∀ H', Ex H H' → Q .non H'
def spNeedOn : Sp := fun vs H Q _ => ∃ (p o : Addr) (zs : TL) (t : Str × Str), vs = [.ref p, .ref o] ∧ H p = some (.tup (rf zs)) ∧ TA H zs ∧ PairAt H o t ∧ t ∈ zs.map (·.2) ∧ (∀ u ∈ zs.map (·.2), okP u) ∧ Q .non H
def spNeedOff (CW : Addr) : Sp := fun vs H Q _ => ∃ (wb p o : Addr) (ks : List Str) (ys zs : TL) (t : Str × Str), vs = [.ref wb, .ref p, .ref o] ∧ TreeAt CW H wb p ks ys zs ∧ PairAt H o t ∧ t ∈ ys.map (·.2) ∧ ¬ t ∈ zs.map (·.2) ∧ Q .non H
theorem joined_con {ks : List Str} {ts : List (Str × Str)} (k1 : 1 ≤ ks.length) : Joined ks ts ↔ ∀ x ∈ ks, ∀ y ∈ ks, OwG.Con ts x y := by
  constructor
  · exact fun h x hx y hy => (rch_con.mp (h x hx)).symm.trans (rch_con.mp (h y hy))
  · exact fun h k hk => rch_con.mpr (h _ (first_in k1).1 k hk)
section
variable {P : Program} {w : World} {K : PySem.W.Frag} {mg : Str → Option Value} {base : Heap}
theorem scIJT : FnScope NIj ["web", "value"] (defScope sIJT) := ⟨rfl, rfl, rfl, by decide +kernel, rfl, by decide +kernel, by decide +kernel⟩
theorem ok_ijt {f C : Addr} {fd : FuncData} (F : Fun K "is_joining_tree" "is_joining_tree" sIJT f fd) (WK : WebK K C) (cN : Cl P w K mg base 1 "need_web" ["web"] (spNeedW C)) (cP : Pt P w K mg base 1 C "places" (spWPlaces C)) (cT : Pt P w K mg base 1 C "ties" (spWTies C)) (cA : Cl P w K mg base 1 "ascends" ["row"] spAsc) (cR : Cl P w K mg base 2 "reached_along" ["ties", "place"] spReach) (T : BltB mg) : FnOk P w K mg base CX0 3 f fd ["web", "value"] (spIJT C) := by
  have nd := scIJT.nd
  refine F.ok scIJT (fun vs H Q E h => ?_) (fun cdv A outer s H vs Q E hr h => ⟨_, (pss_cons (ps_expr (pe_call cN.ok (hr.mono (by decide)) (by rfl) cN.gl cN.kp cN.bd .nil pass0 (pa_cons (pv 0) pa_nil)))
    (pss_cons (ps_if ((pw_or (pt_not (pt_val (pe_callB call_isi (by rfl) T.isinst (by decide +kernel) (pa_cons (pv 1) (pa_cons (pe_bltn (v := .ty "tuple") (by rfl) T.tuple (by decide +kernel) rfl) pa_nil))) (fun _ => rfl))) (pw_or1 (pt_cmpR op_ne (pe_callB call_len_seq (by rfl) T.len (by decide +kernel) (pa_cons (pv 1) pa_nil)) (pe_op op_sub (pe_callB call_len_seq (by rfl) T.len (by decide +kernel) (pa_cons (pe_prop (pv 0) WK.cls cP.po cP.ok (hr.mono (by decide)) cP.bd .nil pass0 rfl) pa_nil)) pe_int) (nomark _))))).pt (pss_one (ps_ret pe_bl)) pss_nil)
    (pss_cons (ps_if ((pw_or (pt_not (pt_val (pe_callB (cr_all rfl) (by rfl) T.all (by decide +kernel) (pa_cons (pe_lc (own := [("tie", 2)]) (g := gName 2) (tt := tYes) (te := tOp (rInTs false) (tVar 2) (tProp C (spWTies C) [] E0 (tVar 0))) rfl nd (pi_tup (pv 1)) (blkOk_by (own := [("tie", 2)]) (N := NIj) (sc := defScope sIJT) (by decide +kernel)) (fun _ _ _ _ _ => (pg_name (i := 2) nd rfl (Or.inl rfl))) (fun _ _ _ _ _ => pts_nil) (fun _ _ _ _ _ => (pe_cmpR (op_inTs (units65 hr)) (pv 2) (pe_prop (pv 0) WK.cls cT.po cT.ok (hr.mono (by decide)) cT.bd .nil pass0 rfl) (by with_unfolding_all rfl)))) pa_nil)) (fun _ => rfl))) (pw_or1 (pt_not (pt_val (pe_call cA.ok (hr.mono (by decide)) (by rfl) cA.gl cA.kp cA.bd .nil pass0 (pa_cons (pv 1) pa_nil)) (fun _ => rfl)))))).pt (pss_one (ps_ret pe_bl)) pss_nil)
    (pss_one (ps_ret (pe_cmpR (op_eqD hr.units) (pe_call cR.ok (hr.mono (by decide)) (by rfl) cR.gl cR.kp cR.bd .nil pass0 (pa_cons (pv 1) (pa_cons (pe_ix ix_tup (pe_prop (pv 0) WK.cls cP.po cP.ok (hr.mono (by decide)) cP.bd .nil pass0 rfl) pe_int (fun _ _ => rfl)) pa_nil))) (pe_prop (pv 0) WK.cls cP.po cP.ok (hr.mono (by decide)) cP.bd .nil pass0 rfl) (nomark _))))))), ?_⟩)
  · obtain ⟨wb, p, ks, ys, zs, rfl, _⟩ := h
    rfl
  · obtain ⟨wb, p, ks, ys, zs, rfl, hw, hp, ta, sub, asc, len, k⟩ := h
    have ok := hw.ok
    have n9 := ok.nine
    obtain ⟨dx, pp, q, n, nl, h1, wa, _⟩ := hw.at_
    walk_at "rd"
    refine ⟨wb, ks, ys, rfl, hw, ?_⟩
    walk_at "rd"
    have dt := dhT ok.names ta fun t ht => (⟨(ok.ends t (sub t ht)).1, (ok.ends t (sub t ht)).2.1⟩ : t.1 ∈ ks ∧ t.2 ∈ ks)
    refine Rd.isi (.tup hp (by unfold rf; rw [List.length_map]; omega) dt) (by decide) ⟨_, rfl, ?_⟩
    refine Rd.iteF (by simp [isD, tyD]) ?_
    walk_at "rd"
    refine ⟨p, _, rfl, Or.inr (SqT.of hp), ?_⟩
    unfold tProp
    walk_at "rd"
    refine ⟨wb, dx, _, rfl, h1, wb, ks, ys, rfl, hw, fun pl hpl => ?_⟩
    walk_at "rd"
    refine ⟨pl, _, rfl, Or.inr (SqT.of hpl), ?_⟩
    walk_at "rd"
    refine Rd.ne rfl ⟨_, rfl, ?_⟩
    have rl : (rf zs).length = zs.length := by unfold rf; rw [List.length_map]
    have ne0 : (!decide (V.int ((rf zs).length : Nat) = V.int (((ks.map V.str).length : Nat) - 1 : Int))) = false := by
      rw [rl, List.length_map]
      have : ((zs.length : Nat) : Int) = ((ks.length : Nat) : Int) - 1 := by omega
      rw [this]
      simp
    refine Rd.iteF (by rw [ne0]; decide) ?_
    walk_at "rd"
    refine Rd.lcm' ?_
    refine ⟨_, rfl, p, rfl, ⟨_, SqT.of hp⟩, fun D hD => ?_⟩
    refine Rd.lc_mapG (walk_tup (xs := rf zs)) (fun _ => V.bl true) hD (by rw [rl]; omega) (fun H' e => ex_t e (SqT.of hp)) (fun i y Ha Hb R hi ea y1 hR => ?_) (fun H2 e2 h2 => ?_)
    · obtain ⟨rfl, y2⟩ := y1
      rw [List.getElem?_map] at y2
      cases hu : zs[i]? with
      | none => rw [hu] at y2; exact nomatch y2
      | some u =>
        rw [hu] at y2
        cases y2
        have um := List.mem_of_getElem? hu
        have ut := sub u.2 (List.mem_map.mpr ⟨u, um, rfl⟩)
        show _ ∧ _
        refine ⟨rfl, ?_⟩
        unfold tOp
        walk_at "rd"
        refine ⟨wb, dx, _, rfl, ea _ _ h1, wb, ks, ys, rfl, hw.ex ea, fun pt hpt tat => ?_⟩
        refine inTs_of (t := u.2) (ta.ex ea u um) (.inr hpt) tat (ok.okP _ ut) ok.okP ?_
        rw [if_neg (by decide), decide_eq_true ut]
        exact hR Hb (Ex.refl _)
    · walk_at "rd"
      rw [bls _ (fun _ => true)] at h2
      refine ⟨_, _, rfl, SqL.of h2, ?_⟩
      have al : ((List.range (rf zs).length).map fun _ => true).all id = true := by simp
      rw [al]
      refine ⟨_, rfl, ?_⟩
      refine Rd.iteF (by decide) ?_
      walk_at "rd"
      refine ⟨p, rfl, Or.inr ⟨zs, e2 _ _ hp, ta.ex e2, by omega, fun H3 e3 => ?_⟩⟩
      rw [ascB_of (r := OwL2.ltP) asc]
      refine ⟨_, rfl, ?_⟩
      refine Rd.iteF (by decide) ?_
      walk_at "rd"
      have hw3 := (hw.ex e2).ex e3
      have k1 : 1 ≤ ks.length := by omega
      refine ⟨wb, dx, _, rfl, e3 _ _ (e2 _ _ h1), wb, ks, ys, rfl, hw3, fun pl2 hpl2 => ?_⟩
      walk_at "rd"
      refine Rd.ixt (SqT.of hpl2) (first_in k1).2 ?_
      walk_at "rd"
      have ends := fun t (ht : t ∈ zs.map (·.2)) => ok.ends t (sub t ht)
      refine ⟨p, zs, ks.getD 0 "", ks, rfl, e3 _ _ (e2 _ _ hp), (ta.ex e2).ex e3, by omega, by omega, (first_in k1).1, fun u hu => ?_, fun l so nd' h r3 H4 e4 hr3 => ?_⟩
      · have z := ends u.2 (List.mem_map.mpr ⟨u, hu, rfl⟩)
        exact ⟨z.1, z.2.1⟩
      walk_at "rd"
      refine ⟨wb, dx, _, rfl, e4 _ _ (e3 _ _ (e2 _ _ h1)), wb, ks, ys, rfl, hw3.ex e4, fun pl3 hpl3 => ?_⟩
      have ln : ∀ s ∈ l, nameB s = true := fun s hs' => ok.names s (rch_in ends (first_in k1).1 ((h s).mp hs'))
      refine ⟨.tuple (l.map PyData.str), .tuple (ks.map PyData.str), .tup (SqT.of hr3) (dp_strsT l), .tup (SqT.of hpl3) (dp_strsT ks), shaped_tup ln, shaped_tup ok.names, ?_⟩
      have ee : PyData.eqv (.tuple (l.map PyData.str)) (.tuple (ks.map PyData.str)) = decide (l = ks) := by simp [PyData.eqv, eqvAll_strs]
      rw [ee, reach_eq k1 ok.asc ends so nd' h]
      exact k _ _ ((e2.trans e3).trans e4) (joinB_true.trans (joined_con k1))
theorem scNeedT : FnScope ["web", "tree"] ["web", "tree"] (defScope sNeedT) := ⟨rfl, rfl, rfl, by decide +kernel, rfl, by decide +kernel, by decide +kernel⟩
theorem ok_needt {f C : Addr} {fd : FuncData} (F : Fun K "need_tree" "need_tree" sNeedT f fd) (cJ : Cl P w K mg base 3 "is_joining_tree" ["web", "value"] (spIJT C)) : FnOk P w K mg base CX0 4 f fd ["web", "tree"] (spNeedT C) := by
  have nd := scNeedT.nd
  refine F.ok scNeedT (fun vs H Q E h => ?_) (fun cdv A outer s H vs Q E hr h => ⟨_, (pss_one (ps_if (pt_not (pt_val (pe_call cJ.ok (hr.mono (by decide)) (by rfl) cJ.gl cJ.kp cJ.bd .nil pass0 (pa_cons (pv 0) (pa_cons (pv 1) pa_nil))) (fun _ => rfl))) pss_dead pss_nil)), ?_⟩)
  · obtain ⟨wb, p, ks, ys, zs, rfl, _⟩ := h
    rfl
  · obtain ⟨wb, p, ks, ys, zs, rfl, t, k⟩ := h
    walk_at "rd"
    refine ⟨wb, p, ks, ys, zs, rfl, t.web, t.at_, t.ta, t.tr.sub, t.tr.asc, by have := t.tr.len; rwa [List.length_map] at this, fun H' c e hc => ⟨_, rfl, ?_⟩⟩
    rw [hc.mpr t.tr.con]
    exact k H' e
theorem scNeedOn : FnScope ["tree", "tie"] ["tree", "tie"] (defScope sNeedOn) := ⟨rfl, rfl, rfl, by decide +kernel, rfl, by decide +kernel, by decide +kernel⟩
theorem ok_needon {f : Addr} {fd : FuncData} (F : Fun K "_need_on" "_need_on" sNeedOn f fd) : FnOk P w K mg base CX0 1 f fd ["tree", "tie"] spNeedOn := by
  have nd := scNeedOn.nd
  refine F.ok scNeedOn (fun vs H Q E h => ?_) (fun cdv A outer s H vs Q E hr h => ⟨_, (pss_one (ps_if (pt_cmpR (op_ninTs (units65 hr)) (pv 1) (pv 0) (by with_unfolding_all rfl)) pss_dead pss_nil)), ?_⟩)
  · obtain ⟨p, o, zs, t, rfl, _⟩ := h
    rfl
  · obtain ⟨p, o, zs, t, rfl, hp, ta, ho, ht, ok, k⟩ := h
    walk_at "rd"
    refine inTs_of ho (.inr hp) ta (ok t ht) ok ?_
    rw [if_pos rfl, decide_eq_true ht]
    refine ⟨_, rfl, ?_⟩
    exact k
theorem scNeedOff : FnScope NNf ["web", "tree", "tie"] (defScope sNeedOff) := ⟨rfl, rfl, rfl, by decide +kernel, rfl, by decide +kernel, by decide +kernel⟩
theorem ok_needoff {f C : Addr} {fd : FuncData} (F : Fun K "_need_off" "_need_off" sNeedOff f fd) (WK : WebK K C) (cT : Pt P w K mg base 1 C "ties" (spWTies C)) : FnOk P w K mg base CX0 3 f fd ["web", "tree", "tie"] (spNeedOff C) := by
  have nd := scNeedOff.nd
  refine F.ok scNeedOff (fun vs H Q E h => ?_) (fun cdv A outer s H vs Q E hr h => ⟨_, (pss_one (ps_if ((pw_or (pt_cmpR (op_ninTs (units65 hr)) (pv 2) (pe_prop (pv 0) WK.cls cT.po cT.ok (hr.mono (by decide)) cT.bd .nil pass0 rfl) (by with_unfolding_all rfl)) (pw_or1 (pt_cmpR (op_inTs (units65 hr)) (pv 2) (pv 1) (by with_unfolding_all rfl))))).pt pss_dead pss_nil)), ?_⟩)
  · obtain ⟨wb, p, o, ks, ys, zs, t, rfl, _⟩ := h
    rfl
  · obtain ⟨wb, p, o, ks, ys, zs, t, rfl, tr, ho, ht, hn, k⟩ := h
    obtain ⟨dx, pp, q, n, nl, h1, wa, _⟩ := tr.web.at_
    have okt := tr.web.ok.okP t ht
    unfold tProp
    walk_at "rd"
    refine ⟨wb, dx, _, rfl, h1, wb, ks, ys, rfl, tr.web, fun pt hpt tat => ?_⟩
    refine inTs_of ho (.inr hpt) tat okt tr.web.ok.okP ?_
    rw [if_pos rfl, decide_eq_true ht]
    refine ⟨_, rfl, ?_⟩
    refine Rd.iteF (by decide) ?_
    walk_at "rd"
    refine inTs_of ho (.inr tr.at_) tr.ta okt tr.okP ?_
    rw [if_neg (by decide), decide_eq_false hn]
    refine ⟨_, rfl, ?_⟩
    exact k
end
end OwW

namespace OwG
variable {α : Type} [DecidableEq α]
def inn (tr : List (α × α)) (vs : List α) : List (α × α) := tr.filter fun t => decide (t.1 ∈ vs) && decide (t.2 ∈ vs)
theorem mem_inn {tr : List (α × α)} {vs : List α} {t : α × α} : t ∈ inn tr vs ↔ t ∈ tr ∧ t.1 ∈ vs ∧ t.2 ∈ vs := by
  unfold inn
  rw [List.mem_filter]
  simp
/-- the places met so far, in the order of meeting, with their next places -/
structure HI (ks : List α) (tr : List (α × α)) (home : α) (vs : List α) (hp : α → α) (rk : α → Nat) : Prop where
  nd : vs.Nodup
  nh : ¬ home ∈ vs
  sub : ∀ v ∈ vs, v ∈ ks
  par : ∀ v ∈ vs, Par tr home v (hp v)
  pin : ∀ v ∈ vs, hp v ∈ home :: vs
  con : ∀ v ∈ home :: vs, Con (inn tr (home :: vs)) v home
  dn : ∀ v ∈ vs, rk (hp v) < rk v
  few : ∀ v ∈ home :: vs, rk v ≤ vs.length
theorem HI.start (ks : List α) (tr : List (α × α)) (home : α) (hp : α → α) : HI ks tr home [] hp (fun _ => 0) :=
  ⟨.nil, (fun h => nomatch h), (fun _ h => nomatch h), (fun _ h => nomatch h), (fun _ h => nomatch h), fun v hv => by rw [List.mem_singleton.mp hv]; exact .here, (fun _ h => nomatch h), fun _ _ => Nat.zero_le _⟩
def put (hp : α → α) (o here : α) : α → α := fun x => if x = o then here else hp x
theorem put_at (hp : α → α) (o here : α) : put hp o here o = here := if_pos rfl
theorem put_ne (hp : α → α) {o here x : α} (h : x ≠ o) : put hp o here x = hp x := if_neg h
theorem HI.add {ks : List α} {tr : List (α × α)} {home : α} {vs : List α} {hp : α → α} {rk : α → Nat} (I : HI ks tr home vs hp rk) {here o : α} (hh : here ∈ home :: vs) (ho : ¬ o ∈ vs) (oh : o ≠ home) (ok : o ∈ ks) (a : Adj tr here o) :
    HI ks tr home (vs ++ [o]) (put hp o here) (fun x => if x = o then vs.length + 1 else rk x) := by
  have nho : ¬ o ∈ home :: vs := fun z => (List.mem_cons.mp z).elim oh ho
  have ne : ∀ v ∈ home :: vs, v ≠ o := fun v hv e => nho (e ▸ hv)
  have up : ∀ v ∈ home :: vs, v ∈ home :: (vs ++ [o]) := fun v hv => (List.mem_cons.mp hv).elim (fun e => e ▸ List.mem_cons_self) fun z => List.mem_cons_of_mem _ (List.mem_append_left _ z)
  have oin : o ∈ home :: (vs ++ [o]) := List.mem_cons_of_mem _ (List.mem_append_right _ List.mem_cons_self)
  have mono : ∀ t ∈ inn tr (home :: vs), t ∈ inn tr (home :: (vs ++ [o])) := fun t ht => by
    obtain ⟨x, y, z⟩ := mem_inn.mp ht
    exact mem_inn.mpr ⟨x, up _ y, up _ z⟩
  have toff : ∀ t ∈ inn tr (home :: vs), t ∈ off tr o := fun t ht => by
    obtain ⟨x, y, z⟩ := mem_inn.mp ht
    exact mem_off.mpr ⟨x, ne _ y, ne _ z⟩
  have edge : Adj (inn tr (home :: (vs ++ [o]))) o here := by
    rcases a with a | a
    · exact .inr (mem_inn.mpr ⟨a, up _ hh, oin⟩)
    · exact .inl (mem_inn.mpr ⟨a, oin, up _ hh⟩)
  refine ⟨List.nodup_append.mpr ⟨I.nd, by simp, fun x hx y hy e => ho (by rw [← List.mem_singleton.mp hy, ← e]; exact hx)⟩, fun z => ?_, fun v hv => ?_, fun v hv => ?_, fun v hv => ?_, fun v hv => ?_, fun v hv => ?_, fun v hv => ?_⟩
  · rcases List.mem_append.mp z with y | y
    · exact I.nh y
    · exact oh (List.mem_singleton.mp y).symm
  · rcases List.mem_append.mp hv with y | y
    · exact I.sub v y
    · rw [List.mem_singleton.mp y]; exact ok
  · rcases List.mem_append.mp hv with y | y
    · rw [put_ne _ (ne v (List.mem_cons_of_mem _ y))]
      exact I.par v y
    · rw [List.mem_singleton.mp y, put_at]
      exact ⟨oh, a.symm, (I.con here hh).mono toff⟩
  · rcases List.mem_append.mp hv with y | y
    · rw [put_ne _ (ne v (List.mem_cons_of_mem _ y))]
      exact up _ (I.pin v y)
    · rw [List.mem_singleton.mp y, put_at]
      exact up _ hh
  · rcases List.mem_cons.mp hv with rfl | hv
    · exact .here
    · rcases List.mem_append.mp hv with y | y
      · exact (I.con v (List.mem_cons_of_mem _ y)).mono mono
      · rw [List.mem_singleton.mp y]
        exact (Con.one edge).trans ((I.con here hh).mono mono)
  · rcases List.mem_append.mp hv with y | y
    · have n1 := ne v (List.mem_cons_of_mem _ y)
      have n2 := ne _ (I.pin v y)
      rw [put_ne _ n1]
      simp only [if_neg n1, if_neg n2]
      exact I.dn v y
    · rw [List.mem_singleton.mp y, put_at]
      simp only [if_pos, if_neg (ne here hh)]
      exact Nat.lt_succ_of_le (I.few here hh)
  · rw [List.length_append]
    show (if v = o then vs.length + 1 else rk v) ≤ vs.length + 1
    by_cases c : v = o
    · rw [if_pos c]
      exact Nat.le_refl _
    · rw [if_neg c]
      rcases List.mem_cons.mp hv with rfl | hv
      · exact Nat.le_succ_of_le (I.few _ List.mem_cons_self)
      · rcases List.mem_append.mp hv with y | y
        · exact Nat.le_succ_of_le (I.few v (List.mem_cons_of_mem _ y))
        · exact absurd (List.mem_singleton.mp y) c
/-- all are met where no tie leads on -/
theorem HI.all {ks : List α} {tr : List (α × α)} {home : α} {vs : List α} {hp : α → α} {rk : α → Nat} (T : TreeOk ks tr) (hk : home ∈ ks) (cl : ∀ v ∈ home :: vs, ∀ b, Adj tr v b → b ∈ home :: vs) : ∀ k ∈ ks, k ∈ home :: vs := fun k hk2 => by
  have c := T.con home hk k hk2
  induction c with
  | here => exact List.mem_cons_self
  | on c e ih => exact cl _ (ih (e.in_ T.sub).1) _ e
theorem HI.len {ks : List α} {tr : List (α × α)} {home : α} {vs : List α} {hp : α → α} {rk : α → Nat} (I : HI ks tr home vs hp rk) (hk : home ∈ ks) : vs.length + 1 ≤ ks.length :=
  nd_le (l := home :: vs) (List.nodup_cons.mpr ⟨I.nh, I.nd⟩) fun x hx => (List.mem_cons.mp hx).elim (fun e => e ▸ hk) (I.sub x)
theorem HI.hands {ks : List α} {tr : List (α × α)} {home : α} {vs : List α} {hp : α → α} {rk : α → Nat} (I : HI ks tr home vs hp rk) (hk : home ∈ ks) (all : ∀ k ∈ ks, k ∈ home :: vs) : Hands ks tr home hp rk :=
  ⟨fun p pk ne => I.par p ((List.mem_cons.mp (all p pk)).resolve_left ne), fun p pk ne => I.dn p ((List.mem_cons.mp (all p pk)).resolve_left ne), fun p pk => Nat.lt_of_lt_of_le (Nat.lt_succ_of_le (I.few p (all p pk))) (I.len hk)⟩
end OwG


namespace OwW
open PySem PyProof.Rows L2 L2H OwX Rd Evl OwAn
abbrev sHands : Stmt := top 39
abbrev NHa : List Str := ["web", "tree", "home", "hands", "todo", "here", "other", "place"]
/-- the dict of next places -/
def hdD2 (vs : List Str) (hp : Str → Str) : List (Key × V) := vs.map fun k => (Sum.inr k, V.str (hp k))
theorem hd_val (hp : Str → Str) : ∀ (vs : List Str) (k : Str), valV (hdD2 vs hp) (Sum.inr k) = if k ∈ vs then some (V.str (hp k)) else none
  | [], k => rfl
  | v :: vs, k => by
    show valV ((Sum.inr v, V.str (hp v)) :: hdD2 vs hp) (Sum.inr k) = _
    by_cases c : v = k
    · subst c
      rw [valV_pos rfl, if_pos List.mem_cons_self]
    · rw [valV_neg (by simpa using c), hd_val hp vs k]
      have c' : ¬ k = v := fun e => c e.symm
      by_cases d : k ∈ vs
      · rw [if_pos d, if_pos (List.mem_cons_of_mem _ d)]
      · rw [if_neg d, if_neg (fun z => (List.mem_cons.mp z).elim c' d)]
theorem hd_in (hp : Str → Str) (vs : List Str) (k : Str) : (valV (hdD2 vs hp) (Sum.inr k)).isSome = decide (k ∈ vs) := by
  rw [hd_val]
  by_cases d : k ∈ vs
  · rw [if_pos d, decide_eq_true d]; rfl
  · rw [if_neg d, decide_eq_false d]; rfl
theorem hd_put {hp : Str → Str} {vs : List Str} {k here : Str} (h : ¬ k ∈ vs) : putK (hdD2 vs hp) (Sum.inr k) (V.str here) = hdD2 (vs ++ [k]) (OwG.put hp k here) := by
  have e : valV (hdD2 vs hp) (Sum.inr k) = none := by rw [hd_val, if_neg h]
  rw [putK_new _ e]
  unfold hdD2
  rw [List.map_append]
  congr 1
  · refine List.map_congr_left fun v hv => ?_
    rw [OwG.put_ne hp (fun e => h (by rw [← e]; exact hv))]
  · show [(Sum.inr k, V.str here)] = [(Sum.inr k, V.str (OwG.put hp k here k))]
    rw [OwG.put_at]
def notHome (home : Str) (ks : List Str) : List Str := ks.filter fun k => !decide (k = home)
def spHands (CW : Addr) : Sp := fun vs H Q _ => ∃ (wb p : Addr) (home : Str) (ks : List Str) (ys zs : TL), vs = [.ref wb, .ref p, .str home] ∧ TreeAt CW H wb p ks ys zs ∧ home ∈ ks ∧
  ∀ q H' hp rk, Ex H H' → OwG.Hands ks (zs.map (·.2)) home hp rk → H' q = some (.dK (hdD2 (notHome home ks) hp)) → Q (.ref q) H'
theorem norm_adj {ts : List (Str × Str)} (h : ∀ t ∈ ts, OwL2.lt t.1 t.2 = true) {a b : Str} (n : a ≠ b) : norm (a, b) ∈ ts ↔ OwG.Adj ts a b := by
  rcases norm_cases a b n with ⟨e, l⟩ | ⟨e, l⟩
  · rw [e]
    refine ⟨.inl, fun z => z.elim id fun z => ?_⟩
    have y := h _ z
    rw [lt_asym l] at y
    exact nomatch y
  · rw [e]
    refine ⟨.inr, fun z => z.elim (fun z => ?_) id⟩
    have y := h _ z
    rw [lt_asym l] at y
    exact nomatch y
/-- the loop's state -/
structure HS (H0 : Hp) (D T : Addr) (ks : List Str) (tr : List (Str × Str)) (home : Str) (vs ts : List Str) (hp : Str → Str) (rk : Str → Nat) (H : Hp) : Prop where
  ex : Ex H0 H
  d1 : H D = some (.dK (hdD2 vs hp))
  d2 : H T = some (.lst (ts.map V.str))
  hi : OwG.HI ks tr home vs hp rk
  todo : ∀ t ∈ ts, t ∈ home :: vs
  tl : ts.length ≤ vs.length + 1
section
variable {P : Program} {w : World} {K : PySem.W.Frag} {mg : Str → Option Value} {base : Heap}
theorem scHands : FnScope NHa ["web", "tree", "home"] (defScope sHands) := ⟨rfl, rfl, rfl, by decide +kernel, rfl, by decide +kernel, by decide +kernel⟩
theorem ok_hands {f C : Addr} {fd : FuncData} (F : Fun K "_hands" "_hands" sHands f fd) (WK : WebK K C) (cN : Mt P w K mg base 4 C "neighbours" ["self", "place"] (spWNear C)) (cT : Cl P w K mg base 1 "tie_of" ["a", "b"] spTie) (cP : Pt P w K mg base 1 C "places" (spWPlaces C)) : FnOk P w K mg base CX0 5 f fd ["web", "tree", "home"] (spHands C) := by
  have nd := scHands.nd
  refine F.ok scHands (fun vs H Q E h => ?_) (fun cdv A outer s H vs Q E hr h => ⟨_, (pss_cons (ps_set (i := 3) nd rfl (Or.inr rfl) pe_dnewK)
    (pss_cons (ps_set (i := 4) nd rfl (Or.inl rfl) (pe_lstN (pa_cons (pv 2) pa_nil)))
    (pss_cons (ps_while PassesOwn.never (pt_truth (pv 4) (fun _ => rfl)) (pss_cons (ps_set (i := 5) nd rfl (Or.inl rfl) (pe_bm0 PySem.F.plainAttrs_list PySem.F.slot_list_pop PySem.F.type_list_pop mt_pop (pv 4)))
    (pss_one (ps_for PassesOwn.never rfl (pi_tup (pe_meth (pv 0) WK.cls cN.me cN.ok (hr.mono (by decide)) cN.bd .nil pass0 (pa_cons (pv 5) pa_nil))) (pg_name (i := 6) nd rfl (Or.inl rfl)) (pss_one (ps_if ((pw_and (pt_cmpR (op_inTs (units65 hr)) (pe_call cT.ok (hr.mono (by decide)) (by rfl) cT.gl cT.kp cT.bd .nil pass0 (pa_cons (pv 5) (pa_cons (pv 6) pa_nil))) (pv 1) (by with_unfolding_all rfl)) (pw_and (pt_cmpR op_ne (pv 6) (pv 2) (nomark _)) (pw_and1 (pt_cmp (pc_dnotin (units1 hr) (pv 6) (pv 3))))))).pt (pss_cons (ps_dput (units1 hr) (pv 3) (pv 6) (pv 5) rfl)
    (pss_one (ps_expr (pe_bm PySem.F.plainAttrs_list PySem.F.slot_list_append PySem.F.type_list_append mt_append (pv 4) (pa_cons (pv 6) pa_nil))))) pss_nil))))))
    (pss_one (ps_ret (pe_dc (own := [("place", 7)]) (g := gName 7) (tt := tTest (tOp rNe (tVar 7) (tVar 2))) rfl nd (pi_tup (pe_prop (pv 0) WK.cls cP.po cP.ok (hr.mono (by decide)) cP.bd .nil pass0 rfl)) (blkOk_by (own := [("place", 7)]) (N := NHa) (sc := defScope sHands) (by decide +kernel)) (fun _ _ _ _ _ => (pg_name (i := 7) nd rfl (Or.inl rfl))) (fun _ _ _ _ _ => (pts_one (pt_cmpR op_ne (pv 7) (pv 2) (nomark _)))) (fun _ _ _ _ _ => (pv 7)) (fun _ _ _ _ _ => (pe_dget (units1 hr) (pv 3) (pv 7) (fun _ _ => rfl))))))))), ?_⟩)
  · obtain ⟨wb, p, home, ks, ys, zs, rfl, _⟩ := h
    rfl
  · obtain ⟨wb, p, home, ks, ys, zs, rfl, t, hk, k⟩ := h
    have ok := t.web.ok
    have n9 := ok.nine
    have TO := t.tr.tree ok
    have few := t.few
    obtain ⟨dx, pp, q, n, nl, w1, wa, _⟩ := t.web.at_
    rw [show L2.start NHa [V.ref wb, V.ref p, V.str home] = [some (.ref wb), some (.ref p), some (.str home), none, none, none, none, none] from rfl]
    walk_at "rd"
    refine fun D hD => ?_
    walk_at "rd"
    refine ⟨small64 (n := 1) (by decide), fun T hT _ => ?_⟩
    have nTD : T ≠ D := fun e => by
      rw [e, upd_same] at hT
      exact nomatch hT
    have hT0 : H T = none := by
      rw [upd_ne nTD] at hT
      exact hT
    have S0 : HS H D T ks (zs.map (·.2)) home [] [home] (fun _ => "") (fun _ => 0) (upd (upd H D (.dK [])) T (.lst [V.str home])) :=
      ⟨((Ex.refl H).mut hD).mut hT0, by rw [upd_ne (Ne.symm nTD), upd_same]; rfl, upd_same, OwG.HI.start _ _ _ _, fun x hx => hx, Nat.le_refl _⟩
    generalize upd (upd H D (.dK [])) T (.lst [V.str home]) = H2 at S0 ⊢
    clear hT
    walk_at "rd"
    dsimp only [List.set_cons_succ, List.set_cons_zero]
    walk_at "rd"
    refine ⟨fun m σ H' => ∃ (vs ts : List Str) (hp : Str → Str) (rk : Str → Nat) (x5 x6 : Option V), σ = [some (.ref wb), some (.ref p), some (.str home), some (.ref D), some (.ref T), x5, x6, none] ∧ HS H D T ks (zs.map (·.2)) home vs ts hp rk H' ∧ (∀ v ∈ home :: vs, v ∈ ts ∨ ∀ b, OwG.Adj (zs.map (·.2)) v b → b ∈ home :: vs) ∧ m = 2 * (64 - vs.length) + ts.length,
      ⟨_, [], [home], _, _, _, _, rfl, S0, fun v hv => .inl hv, rfl⟩, ?_⟩
    rintro m σ H' ⟨vs, ts, hp, rk, x5, x6, rfl, S, cl, rfl⟩
    walk_at "rd"
    refine ⟨_, Or.inl ⟨_, SqL.of S.d2, rfl⟩, ?_⟩
    show (if _ = true then _ else _)
    have vl := S.hi.len hk
    rcases List.eq_nil_or_concat ts with rfl | ⟨T', here, rfl⟩
    · rw [if_neg (by simp)]
      walk_at "rd"
      have all := OwG.HI.all (vs := vs) (hp := hp) (rk := rk) TO hk fun v hv => (cl v hv).resolve_left fun z => nomatch z
      have hands := S.hi.hands hk all
      unfold tDc iTup tProp
      walk_at "rd"
      refine ⟨wb, dx, _, rfl, S.ex _ _ w1, wb, ks, ys, rfl, t.web.ex S.ex, fun pl hpl => ?_⟩
      refine ⟨pl, rfl, ⟨_, SqT.of hpl⟩, fun R hR => ?_⟩
      refine dc_tup (xs := ks.map V.str) (fun i H4 => Ex H' H4 ∧ H4 R = some (.dK (hdD2 (notHome home (ks.take i)) hp))) ⟨Ex.new hR, upd_same⟩ (fun i H4 _ hP => SqT.of (hP.1 _ _ hpl)) (fun i z H4 hz hP => ?_) (fun H4 hP => ?_)
      · obtain ⟨e4, r4⟩ := hP
        rw [List.getElem?_map] at hz
        cases hb : ks[i]? with
        | none => rw [hb] at hz; exact nomatch hz
        | some b =>
          rw [hb] at hz
          cases hz
          have bk := List.mem_of_getElem? hb
          show _ ∧ _
          refine ⟨rfl, ?_⟩
          walk_at "rd"
          refine Rd.ne rfl ⟨_, rfl, ?_⟩
          have et : ks.take (i + 1) = ks.take i ++ [b] := by rw [List.take_add_one, hb]; rfl
          by_cases c : b = home
          · have e0 : (!decide (V.str b = V.str home)) = false := by rw [c]; simp
            rw [e0, if_neg (by decide)]
            refine ⟨e4, ?_⟩
            rw [et]
            unfold notHome at r4 ⊢
            rw [List.filter_append, List.filter_cons_of_neg (by simp [c]), List.filter_nil, List.append_nil]
            exact r4
          · have e0 : (!decide (V.str b = V.str home)) = true := by simp [c]
            rw [e0, if_pos rfl]
            unfold tDGet
            walk_at "rd"
            have bv : b ∈ vs := (List.mem_cons.mp (all b bk)).resolve_left c
            have dg := DGet.k (k := Sum.inr b) (e4 _ _ S.d1)
            rw [hd_val, if_pos bv] at dg
            refine ⟨D, _, rfl, dg, ?_⟩
            have nb : ¬ b ∈ notHome home (ks.take i) := fun hm => by
              have hm1 := (List.mem_filter.mp hm).1
              have asc := ok.asc
              rw [← List.take_append_drop i ks] at asc
              have hd : b ∈ ks.drop i := List.mem_of_getElem? (i := 0) (by rw [List.getElem?_drop]; exact hb)
              have z := (List.pairwise_append.mp asc).2.2 b hm1 b hd
              rw [lt_irr] at z
              exact nomatch z
            have lnn : (hdD2 (notHome home (ks.take i)) hp).length ≤ 9 := by
              unfold hdD2 notHome
              rw [List.length_map]
              refine Nat.le_trans (List.length_filter_le _ _) ?_
              rw [List.length_take]
              omega
            refine ⟨_, Sum.inr b, rfl, r4, sz_lt (by omega), e4.mut hR, ?_⟩
            have en : valV (hdD2 (notHome home (ks.take i)) hp) (Sum.inr b) = none := by rw [hd_val, if_neg nb]
            rw [upd_same, putK_new _ en, et]
            unfold hdD2 notHome
            rw [List.filter_append, List.filter_cons_of_pos (by simp [c]), List.filter_nil, List.map_append]
            rfl
      · obtain ⟨e4, r4⟩ := hP
        rw [List.length_map, List.take_length] at r4
        exact k R H4 hp rk (S.ex.trans e4) hands r4
    · rw [List.concat_eq_append] at S cl ⊢
      rw [if_pos (by simp)]
      refine ⟨_, fun σ' H' h => h, ?_⟩
      refine ⟨_, rfl, Or.inl ⟨rfl, _, SqL.of S.d2⟩, ?_⟩
      have dl : ((T' ++ [here]).map V.str).dropLast = T'.map V.str := by rw [List.map_append]; exact List.dropLast_concat
      refine ⟨T, _, .str here, rfl, rfl, S.d2, ?_, ?_⟩
      · rw [List.map_append, List.length_append]
        simp
      rw [dl]
      have hin : here ∈ home :: vs := S.todo here (List.mem_append_right _ List.mem_cons_self)
      have tl := S.tl
      rw [List.length_append] at tl
      have hks : here ∈ ks := (List.mem_cons.mp hin).elim (fun e => by rw [e]; exact hk) (S.hi.sub here)
      have Iq : HS H D T ks (zs.map (·.2)) home vs T' hp rk (upd H' T (.lst (T'.map V.str))) :=
        ⟨S.ex.mut hT0, by rw [upd_ne (Ne.symm nTD)]; exact S.d1, upd_same, S.hi, fun r hr => S.todo r (List.mem_append_left _ hr), by have z : T'.length + 1 ≤ vs.length + 1 := tl; omega⟩
      generalize upd H' T (.lst (T'.map V.str)) = H3 at Iq ⊢
      walk_at "rd"
      dsimp only [List.set_cons_succ, List.set_cons_zero]
      with_reducible refine Rd.for' ?_
      unfold iTup tMeth
      walk_at "rd"
      refine ⟨wb, dx, _, rfl, Iq.ex _ _ w1, rfl, ?_⟩
      walk_at "rd"
      refine ⟨wb, ks, ys, here, rfl, t.web.ex Iq.ex, hks, fun q es hq pm so => ?_⟩
      refine ⟨q, rfl, ⟨_, SqT.of hq⟩, ?_⟩
      have I4 := Iq
      have c0 : ∀ v ∈ home :: vs, v ∈ T' ∨ v = here ∨ ∀ b, OwG.Adj (zs.map (·.2)) v b → b ∈ home :: vs := fun v hv => by
        rcases cl v hv with z | z
        · rcases List.mem_append.mp z with z | z
          · exact Or.inl z
          · exact Or.inr (Or.inl (List.mem_singleton.mp z))
        · exact Or.inr (Or.inr z)
      refine for_it (walk_tup (xs := es.map V.str)) (fun i σ H' => ∃ (vs2 ts2 : List Str) (hp2 : Str → Str) (rk2 : Str → Nat) (o : Option V), σ = [some (.ref wb), some (.ref p), some (.str home), some (.ref D), some (.ref T), some (.str here), o, none] ∧ HS H D T ks (zs.map (·.2)) home vs2 ts2 hp2 rk2 H' ∧ H' q = some (.tup (es.map V.str)) ∧ (∀ v ∈ home :: vs, v ∈ home :: vs2) ∧ (∀ v ∈ home :: vs2, v ∈ ts2 ∨ v = here ∨ ∀ b, OwG.Adj (zs.map (·.2)) v b → b ∈ home :: vs2) ∧ (∀ (j : Nat) (b : Str), j < i → es[j]? = some b → OwG.Adj (zs.map (·.2)) here b → b ∈ home :: vs2) ∧ 2 * (64 - vs2.length) + ts2.length ≤ 2 * (64 - vs.length) + T'.length)
        ⟨vs, T', hp, rk, _, rfl, I4, hq, fun _ h => h, c0, fun _ _ h => absurd h (Nat.not_lt_zero _), Nat.le_refl _⟩ (fun i σ H' _ hP => ?_) (fun i z σ H5 H6 hi hP hY => ?_) (fun σ H5 hP => ?_)
      · obtain ⟨_, _, _, _, _, rfl, I5, hq5, _⟩ := hP
        exact SqT.of hq5
      · obtain ⟨vs2, ts2, hp2, rk2, o, rfl, I5, hq5, sR, c5, d5, me⟩ := hP
        obtain ⟨rfl, hz⟩ := hY
        rw [List.getElem?_map] at hz
        cases hb : es[i]? with
        | none => rw [hb] at hz; exact nomatch hz
        | some b =>
          rw [hb] at hz
          cases hz
          have bE : b ∈ endsL (ys.map (·.2)) here := pm.mem_iff.mp (List.mem_of_getElem? hb)
          have adjW : OwG.Adj (ys.map (·.2)) here b := ends_iff.mp bE
          have bks : b ∈ ks := (adjW.in_ fun u hu => (⟨(ok.ends u hu).1, (ok.ends u hu).2.1⟩ : u.1 ∈ ks ∧ u.2 ∈ ks)).2
          have nhb : here ≠ b := adjW.elim (fun z => ok.tne _ z) fun z e => ok.tne _ z e.symm
          have vl2 := I5.hi.len hk
          have tl2 := I5.tl
          walk_at "rd"
          dsimp only [List.set_cons_succ, List.set_cons_zero]
          walk_at "rd"
          refine ⟨here, b, rfl, fun r H7 e7 hr7 hrn => ?_⟩
          walk_at "rd"
          have I7 : HS H D T ks (zs.map (·.2)) home vs2 ts2 hp2 rk2 H7 := ⟨I5.ex.trans e7, e7 _ _ I5.d1, e7 _ _ I5.d2, I5.hi, I5.todo, I5.tl⟩
          have na := norm_adj (ts := zs.map (·.2)) (fun u hu => (ok.ends u (t.tr.sub u hu)).2.2) nhb
          have okn : okP (norm (here, b)) := by
            rcases norm_cases here b nhb with ⟨e, _⟩ | ⟨e, _⟩
            · rw [e]; exact ⟨ok.names _ hks, ok.names _ bks⟩
            · rw [e]; exact ⟨ok.names _ bks, ok.names _ hks⟩
          refine inTs_of (t := norm (here, b)) hr7 (.inr (I7.ex _ _ t.at_)) (t.ta.ex I7.ex) okn t.okP ?_
          rw [if_neg (by decide)]
          refine ⟨_, rfl, ?_⟩
          have skip : ∀ H8, Ex H7 H8 → (OwG.Adj (zs.map (·.2)) here b → b ∈ home :: vs2) → ∃ (vs3 ts3 : List Str) (hp3 : Str → Str) (rk3 : Str → Nat) (o : Option V), [some (V.ref wb), some (.ref p), some (.str home), some (.ref D), some (.ref T), some (.str here), some (V.str b), none] = [some (V.ref wb), some (.ref p), some (.str home), some (.ref D), some (.ref T), some (.str here), o, none] ∧ HS H D T ks (zs.map (·.2)) home vs3 ts3 hp3 rk3 H8 ∧ H8 q = some (.tup (es.map V.str)) ∧ (∀ v ∈ home :: vs, v ∈ home :: vs3) ∧ (∀ v ∈ home :: vs3, v ∈ ts3 ∨ v = here ∨ ∀ b, OwG.Adj (zs.map (·.2)) v b → b ∈ home :: vs3) ∧ (∀ (j : Nat) (b : Str), j < i + 1 → es[j]? = some b → OwG.Adj (zs.map (·.2)) here b → b ∈ home :: vs3) ∧ 2 * (64 - vs3.length) + ts3.length ≤ 2 * (64 - vs.length) + T'.length := fun H8 e8 hin2 =>
            ⟨vs2, ts2, hp2, rk2, _, rfl, ⟨I7.ex.trans e8, e8 _ _ I7.d1, e8 _ _ I7.d2, I7.hi, I7.todo, I7.tl⟩, e8 _ _ (e7 _ _ hq5), sR, c5, fun j b' hj hb' ha => by
              rcases Nat.lt_or_eq_of_le (Nat.le_of_lt_succ hj) with z | z
              · exact d5 j b' z hb' ha
              · subst z
                rw [hb] at hb'
                cases hb'
                exact hin2 ha, me⟩
          by_cases c1 : norm (here, b) ∈ zs.map (·.2)
          · rw [decide_eq_true c1]
            refine Rd.iteT rfl ?_
            walk_at "rd"
            refine Rd.ne rfl ⟨_, rfl, ?_⟩
            by_cases c2 : b = home
            · have e0 : (!decide (V.str b = V.str home)) = false := by rw [c2]; simp
              rw [e0]
              refine Rd.iteF (by decide) (Rd.iteF (by decide) ?_)
              exact skip H7 (Ex.refl _) fun _ => by rw [c2]; exact List.mem_cons_self
            · have e0 : (!decide (V.str b = V.str home)) = true := by simp [c2]
              rw [e0]
              refine Rd.iteT rfl ?_
              walk_at "rd"
              refine ⟨_, rfl, ?_⟩
              walk_at "rd"
              refine ⟨D, _, rfl, DGet.k (k := Sum.inr b) I7.d1, ?_⟩
              rw [hd_in]
              by_cases c3 : b ∈ vs2
              · rw [decide_eq_true c3]
                refine ⟨_, rfl, ?_⟩
                rw [if_neg (by decide)]
                exact skip H7 (Ex.refl _) fun _ => List.mem_cons_of_mem _ c3
              · rw [decide_eq_false c3]
                refine ⟨_, rfl, ?_⟩
                rw [if_pos (by decide)]
                walk_at "rd"
                unfold sDPut
                walk_at "rd"
                refine ⟨D, _, rfl, DPut.k (k := Sum.inr b) I7.d1 ?_, ?_⟩
                · unfold hdD2
                  rw [List.length_map]
                  exact sz_lt (by omega)
                rw [hd_put c3]
                have nqD : q ≠ D := fun e => by
                  rw [e, I5.d1] at hq5
                  exact nomatch hq5
                have nqT : q ≠ T := fun e => by
                  rw [e, I5.d2] at hq5
                  exact nomatch hq5
                have g1 : (upd H7 D (.dK (hdD2 (vs2 ++ [b]) (OwG.put hp2 b here)))) D = some (.dK (hdD2 (vs2 ++ [b]) (OwG.put hp2 b here))) := upd_same
                have g2 : (upd H7 D (.dK (hdD2 (vs2 ++ [b]) (OwG.put hp2 b here)))) T = some (.lst (ts2.map V.str)) := (upd_ne nTD).trans I7.d2
                have gq : (upd H7 D (.dK (hdD2 (vs2 ++ [b]) (OwG.put hp2 b here)))) q = some (.tup (es.map V.str)) := (upd_ne nqD).trans (e7 _ _ hq5)
                have ge : Ex H (upd H7 D (.dK (hdD2 (vs2 ++ [b]) (OwG.put hp2 b here)))) := I7.ex.mut hD
                generalize upd H7 D (.dK (hdD2 (vs2 ++ [b]) (OwG.put hp2 b here))) = H8 at g1 g2 gq ge ⊢
                walk_at "rd"
                refine ⟨_, rfl, Or.inl ⟨rfl, _, SqL.of g2⟩, ?_⟩
                walk_at "rd"
                refine ⟨T, ts2.map V.str, .str b, rfl, rfl, g2, ?_, ?_⟩
                · rw [List.length_map]
                  exact sz_lt (by omega)
                have hi3 := I7.hi.add (sR here hin) c3 c2 bks (na.mp c1)
                refine ⟨vs2 ++ [b], ts2 ++ [b], _, _, _, rfl, ⟨ge.mut hT0, (upd_ne (Ne.symm nTD)).trans g1, by rw [List.map_append]; exact upd_same, hi3, fun r hr => ?_, ?_⟩, (upd_ne nqT).trans gq, fun r hr => ?_, fun r hr => ?_, fun j b' hj hb' ha => ?_, ?_⟩
                · rcases List.mem_append.mp hr with z | z
                  · exact (List.mem_cons.mp (I5.todo r z)).elim (fun e => by rw [e]; exact List.mem_cons_self) fun y => List.mem_cons_of_mem _ (List.mem_append_left _ y)
                  · exact List.mem_cons_of_mem _ (List.mem_append_right _ z)
                · rw [List.length_append, List.length_append]
                  exact Nat.add_le_add_right tl2 _
                · exact (List.mem_cons.mp (sR r hr)).elim (fun e => by rw [e]; exact List.mem_cons_self) fun y => List.mem_cons_of_mem _ (List.mem_append_left _ y)
                · have up : ∀ v, v ∈ home :: vs2 → v ∈ home :: (vs2 ++ [b]) := fun v hv => (List.mem_cons.mp hv).elim (fun e => by rw [e]; exact List.mem_cons_self) fun y => List.mem_cons_of_mem _ (List.mem_append_left _ y)
                  have old : ∀ r, r ∈ home :: vs2 → r ∈ ts2 ++ [b] ∨ r = here ∨ ∀ b', OwG.Adj (zs.map (·.2)) r b' → b' ∈ home :: (vs2 ++ [b]) := fun r hr => by
                    rcases c5 r hr with y | y | y
                    · exact Or.inl (List.mem_append_left _ y)
                    · exact Or.inr (Or.inl y)
                    · exact Or.inr (Or.inr fun b' hb' => up _ (y b' hb'))
                  rcases List.mem_cons.mp hr with z | z
                  · rw [z]
                    exact old home List.mem_cons_self
                  · rcases List.mem_append.mp z with z | z
                    · exact old r (List.mem_cons_of_mem _ z)
                    · exact Or.inl (List.mem_append_right _ z)
                · have up : ∀ v, v ∈ home :: vs2 → v ∈ home :: (vs2 ++ [b]) := fun v hv => (List.mem_cons.mp hv).elim (fun e => by rw [e]; exact List.mem_cons_self) fun y => List.mem_cons_of_mem _ (List.mem_append_left _ y)
                  rcases Nat.lt_or_eq_of_le (Nat.le_of_lt_succ hj) with z | z
                  · exact up _ (d5 j b' z hb' ha)
                  · subst z
                    rw [hb] at hb'
                    cases hb'
                    exact List.mem_cons_of_mem _ (List.mem_append_right _ List.mem_cons_self)
                · have v3 := hi3.len hk
                  rw [List.length_append] at v3 ⊢
                  rw [List.length_append]
                  show 2 * (64 - (vs2.length + 1)) + (ts2.length + 1) ≤ _
                  have v4 : vs2.length + 1 + 1 ≤ ks.length := v3
                  omega
          · rw [decide_eq_false c1]
            refine Rd.iteF (by decide) (Rd.iteF (by decide) ?_)
            exact skip H7 (Ex.refl _) fun ha => absurd (na.mpr ha) c1
      · obtain ⟨vs2, ts2, hp2, rk2, o, rfl, I5, hq5, sR, c5, d5, me⟩ := hP
        rw [List.length_map] at d5
        refine ⟨_, ?_, vs2, ts2, hp2, rk2, _, o, rfl, I5, fun r hr => ?_, rfl⟩
        · rw [List.length_append]
          show _ < _ + (_ + 1)
          omega
        · rcases c5 r hr with z | z | z
          · exact Or.inl z
          · subst z
            refine Or.inr fun b hb => ?_
            have bE : b ∈ endsL (ys.map (·.2)) r := ends_iff.mpr (hb.mono t.tr.sub)
            obtain ⟨j, hj⟩ := List.getElem?_of_mem (pm.mem_iff.mpr bE)
            exact d5 j b (List.getElem?_eq_some_iff.mp hj).1 hj hb
          · exact Or.inr z
end
end OwW


namespace OwW
open PySem PyProof.Rows L2 L2H OwX Rd Evl OwAn
abbrev sWay : Stmt := top 40
abbrev sSide : Stmt := top 41
abbrev sWayIn : Stmt := top 31
abbrev sRingC : Stmt := top 32
abbrev sCutC : Stmt := top 33
abbrev sSideOf : Stmt := top 34
abbrev NWy : List Str := ["web", "tree", "a", "b", "hands", "way"]
abbrev NSd : List Str := ["tree", "tie", "place", "other"]
abbrev NRg : List Str := ["web", "tree", "tie", "ring"]
/-- the way home from x, and how it came about -/
structure WayOk (ks : List Str) (tr : List (Str × Str)) (home x : Str) (w : List Str) : Prop where
  way : OwG.Way tr home x w
  ex : ∃ hp rk, OwG.Hands ks tr home hp rk
theorem atI_last {xs : List V} {v : V} : atI (xs ++ [v]) (-1) = some v := by
  unfold atI ixN
  rw [if_neg (by decide), if_pos (by rw [List.length_append, List.length_singleton]; omega)]
  show (xs ++ [v])[(-1 + (((xs ++ [v]).length : Nat) : Int)).toNat]? = _
  have c : (-1 + (((xs ++ [v]).length : Nat) : Int)).toNat = xs.length := by rw [List.length_append, List.length_singleton]; omega
  rw [c, List.getElem?_append_right (Nat.le_refl _), Nat.sub_self]
  rfl
theorem WayOk.facts {ks : List Str} {tr : List (Str × Str)} {home x : Str} {l : List Str} (nd : ks.Nodup) (T : OwG.TreeOk ks tr) (hk : home ∈ ks) (w : WayOk ks tr home x l) : l.Nodup ∧ l.length ≤ ks.length ∧ 1 ≤ l.length ∧ ∀ y ∈ l, y ∈ ks := by
  obtain ⟨hp, rk, G⟩ := w.ex
  have n := (w.way.ranks nd T G).2
  have i := w.way.in_ T.sub hk
  obtain ⟨l', rfl⟩ := w.way.hd
  exact ⟨n, OwG.nd_le n i, by simp, i⟩
theorem WayOk.three {ks : List Str} {tr : List (Str × Str)} {home x : Str} {l : List Str} (w : WayOk ks tr home x l) (n : ¬ OwG.Adj tr x home) (ne : x ≠ home) : 3 ≤ l.length := by
  cases w.way with
  | home => exact absurd rfl ne
  | on g b =>
    cases b with
    | home => exact absurd g.adj n
    | on _ c =>
      obtain ⟨l', rfl⟩ := c.hd
      simp
def spWay (CW : Addr) : Sp := fun vs H Q _ => ∃ (wb p : Addr) (a b : Str) (ks : List Str) (ys zs : TL), vs = [.ref wb, .ref p, .str a, .str b] ∧ TreeAt CW H wb p ks ys zs ∧ a ∈ ks ∧ b ∈ ks ∧
  ∀ q H' l, Ex H H' → WayOk ks (zs.map (·.2)) b a l → H' q = some (.tup (l.map V.str)) → Q (.ref q) H'
def spSide : Sp := fun vs H Q _ => ∃ (p o : Addr) (x : Str) (ks : List Str) (zs : TL) (t : Str × Str), vs = [.ref p, .ref o, .str x] ∧ H p = some (.tup (rf zs)) ∧ TA H zs ∧ PairAt H o t ∧ okP t ∧ (∀ u ∈ zs.map (·.2), okP u) ∧ (∀ u ∈ zs.map (·.2), u.1 ∈ ks ∧ u.2 ∈ ks) ∧ x ∈ ks ∧ ks.length ≤ 40 ∧ zs.length ≤ 20 ∧
  ∀ q H' l, Ex H H' → sortedS l = true → l.Nodup → (∀ k, k ∈ l ↔ OwG.Con (OwG.but (zs.map (·.2)) t) x k) → H' q = some (.tup (l.map V.str)) → Q (.ref q) H'
def spWayIn (CW : Addr) : Sp := spWay CW
def spRingC (CW : Addr) : Sp := fun vs H Q _ => ∃ (wb p o : Addr) (t : Str × Str) (ks : List Str) (ys zs : TL), vs = [.ref wb, .ref p, .ref o] ∧ TreeAt CW H wb p ks ys zs ∧ PairAt H o t ∧ t ∈ ys.map (·.2) ∧ ¬ t ∈ zs.map (·.2) ∧
  ∀ q H' l k, Ex H H' → WayOk ks (zs.map (·.2)) t.2 t.1 l → MinAt l k → H' q = some (.tup ((turnL (rotL l k)).map V.str)) → Q (.ref q) H'
def spCutC (CW : Addr) : Sp := fun vs H Q _ => ∃ (wb p o : Addr) (t : Str × Str) (ks : List Str) (ys zs : TL), vs = [.ref wb, .ref p, .ref o] ∧ TreeAt CW H wb p ks ys zs ∧ PairAt H o t ∧ t ∈ zs.map (·.2) ∧
  ∀ q H' (l : List Str) (cs : TL), Ex H H' → (∀ k, k ∈ l ↔ OwG.Con (OwG.but (zs.map (·.2)) t) t.1 k) → H' q = some (.tup (rf cs)) → TA H' cs → cs.map (·.2) = (ys.map (·.2)).filter (acrossB l) → Q (.ref q) H'
def spSideOf (CW : Addr) : Sp := fun vs H Q _ => ∃ (wb p o : Addr) (t : Str × Str) (x : Str) (ks : List Str) (ys zs : TL), vs = [.ref wb, .ref p, .ref o, .str x] ∧ TreeAt CW H wb p ks ys zs ∧ PairAt H o t ∧ t ∈ zs.map (·.2) ∧ x ∈ ks ∧
  ∀ q H' l, Ex H H' → sortedS l = true → l.Nodup → (∀ k, k ∈ l ↔ OwG.Con (OwG.but (zs.map (·.2)) t) x k) → H' q = some (.tup (l.map V.str)) → Q (.ref q) H'
theorem but_tl (zs : TL) (t : Str × Str) : (zs.filter fun u => !decide (u.2 = t)).map (·.2) = OwG.but (zs.map (·.2)) t := by
  unfold OwG.but
  rw [List.filter_map]
  rfl
theorem con_in {ks : List Str} {ts : List (Str × Str)} (h : ∀ t ∈ ts, t.1 ∈ ks ∧ t.2 ∈ ks) {x y : Str} (hx : x ∈ ks) (c : OwG.Con ts x y) : y ∈ ks := by
  induction c with
  | here => exact hx
  | on _ e _ => exact (e.in_ h).2
section
variable {P : Program} {w : World} {K : PySem.W.Frag} {mg : Str → Option Value} {base : Heap}
theorem scWay : FnScope NWy ["web", "tree", "a", "b"] (defScope sWay) := ⟨rfl, rfl, rfl, by decide +kernel, rfl, by decide +kernel, by decide +kernel⟩
theorem ok_way {f C : Addr} {fd : FuncData} (F : Fun K "_way" "_way" sWay f fd) (cH : Cl P w K mg base 5 "_hands" ["web", "tree", "home"] (spHands C)) (gTu : mg "tuple" = none) : FnOk P w K mg base CX0 6 f fd ["web", "tree", "a", "b"] (spWay C) := by
  have nd := scWay.nd
  refine F.ok scWay (fun vs H Q E h => ?_) (fun cdv A outer s H vs Q E hr h => ⟨_, (pss_cons (ps_set (i := 4) nd rfl (Or.inl rfl) (pe_call cH.ok (hr.mono (by decide)) (by rfl) cH.gl cH.kp cH.bd .nil pass0 (pa_cons (pv 0) (pa_cons (pv 1) (pa_cons (pv 3) pa_nil)))))
    (pss_cons (ps_set (i := 5) nd rfl (Or.inl rfl) (pe_lstN (pa_cons (pv 2) pa_nil)))
    (pss_cons (ps_while PassesOwn.never (pt_cmpR op_ne (pe_ix ix_list (pv 5) (pe_un un_neg pe_int) (fun _ _ => rfl)) (pv 3) (nomark _)) (pss_one (ps_expr (pe_bm PySem.F.plainAttrs_list PySem.F.slot_list_append PySem.F.type_list_append mt_append (pv 5) (pa_cons (pe_dget (units1 hr) (pv 4) (pe_ix ix_list (pv 5) (pe_un un_neg pe_int) (fun _ _ => rfl)) (fun _ _ => rfl)) pa_nil)))))
    (pss_one (ps_ret (pe_callTy call_tuple_of (by rfl) gTu (by decide +kernel) (pa_cons (pv 5) pa_nil))))))), ?_⟩)
  · obtain ⟨wb, p, a, b, ks, ys, zs, rfl, _⟩ := h
    rfl
  · obtain ⟨wb, p, a, b, ks, ys, zs, rfl, t, ak, bk, k⟩ := h
    have ok := t.web.ok
    have n9 := ok.nine
    have TO := t.tr.tree ok
    rw [show L2.start NWy [V.ref wb, V.ref p, V.str a, V.str b] = [some (.ref wb), some (.ref p), some (.str a), some (.str b), none, none] from rfl]
    walk_at "rd"
    refine ⟨wb, p, b, ks, ys, zs, rfl, t, bk, fun D H1 hp rk e1 HN hD => ?_⟩
    obtain ⟨w0, W0, l0⟩ := OwG.way_ex TO.sub HN ks.length a ak (HN.few a ak)
    walk_at "rd"
    dsimp only [List.set_cons_succ, List.set_cons_zero]
    walk_at "rd"
    refine ⟨small64 (n := 1) (by decide), fun L hL _ => ?_⟩
    have hL0 : H L = none := ex_none e1 hL
    have e2 : Ex H (upd H1 L (.lst [V.str a])) := e1.trans (Ex.new hL)
    have d2 := (Ex.new (o := .lst [V.str a]) hL) _ _ hD
    have l2 : (upd H1 L (.lst [V.str a])) L = some (.lst (([] : List Str).map V.str ++ [V.str a])) := upd_same
    generalize upd H1 L (.lst [V.str a]) = H2 at e2 d2 l2 ⊢
    have nLD : D ≠ L := fun e => by
      rw [e] at hD
      rw [hD] at hL
      exact nomatch hL
    walk_at "rd"
    dsimp only [List.set_cons_succ, List.set_cons_zero]
    walk_at "rd"
    refine ⟨fun m σ H' => ∃ (pre w1 : List Str) (x : Str), σ = [some (.ref wb), some (.ref p), some (.str a), some (.str b), some (.ref D), some (.ref L)] ∧ Ex H H' ∧ H' D = some (.dK (hdD2 (notHome b ks) hp)) ∧ H' L = some (.lst (pre.map V.str ++ [V.str x])) ∧ OwG.Way (zs.map (·.2)) b x w1 ∧ pre ++ w1 = w0 ∧ m = w1.length,
      ⟨_, [], w0, a, rfl, e2, d2, l2, W0, rfl, rfl⟩, ?_⟩
    rintro m σ H' ⟨pre, w1, x, rfl, e3, d3, l3, W1, pw, rfl⟩
    walk_at "rd"
    refine Rd.ixl (SqL.of l3) atI_last ?_
    walk_at "rd"
    refine Rd.ne rfl ⟨_, rfl, ?_⟩
    cases W1 with
    | home =>
      rw [if_neg (by simp)]
      walk_at "rd"
      refine ⟨L, _, rfl, .inl ⟨SqL.of l3, fun q hq => ?_⟩⟩
      have el : pre.map V.str ++ [V.str b] = w0.map V.str := by rw [← pw, List.map_append]; rfl
      rw [el] at l3 ⊢
      exact k q _ w0 (e3.trans (Ex.new hq)) ⟨W0, hp, rk, HN⟩ upd_same
    | @on _ q w2 pa W2 =>
      rw [if_pos (by simp [pa.ne])]
      refine ⟨_, fun σ' H' h => h, ?_⟩
      have xk := (pa.adj.in_ TO.sub).1
      have eq : q = hp x := pa.uniq ok.knd TO (HN.par x xk pa.ne)
      have pl : pre.length ≤ 9 := by
        have z := congrArg List.length pw
        rw [List.length_append] at z
        omega
      walk_at "rd"
      refine ⟨_, rfl, .inl ⟨rfl, _, SqL.of l3⟩, ?_⟩
      unfold tDGet
      walk_at "rd"
      refine Rd.ixl (SqL.of l3) atI_last ?_
      have xn : x ∈ notHome b ks := List.mem_filter.mpr ⟨xk, by simp [pa.ne]⟩
      have dg := DGet.k (k := Sum.inr x) d3
      rw [hd_val, if_pos xn, ← eq] at dg
      refine ⟨D, _, rfl, dg, ?_⟩
      walk_at "rd"
      refine ⟨L, _, .str q, rfl, rfl, l3, sz_lt (by rw [List.length_append, List.length_map, List.length_singleton]; omega), ?_⟩
      refine ⟨_, Nat.lt_succ_self _, pre ++ [x], w2, q, rfl, e3.mut hL0, (upd_ne nLD).trans d3, ?_, W2, ?_, rfl⟩
      · rw [upd_same, List.map_append]
        rfl
      · rw [← pw, List.append_assoc]
        rfl
theorem scSide : FnScope NSd ["tree", "tie", "place"] (defScope sSide) := ⟨rfl, rfl, rfl, by decide +kernel, rfl, by decide +kernel, by decide +kernel⟩
theorem ok_side {f : Addr} {fd : FuncData} (F : Fun K "_side" "_side" sSide f fd) (cR : Cl P w K mg base 2 "reached_along" ["ties", "place"] spReachA) : FnOk P w K mg base CX0 3 f fd ["tree", "tie", "place"] spSide := by
  have nd := scSide.nd
  refine F.ok scSide (fun vs H Q E h => ?_) (fun cdv A outer s H vs Q E hr h => ⟨_, (pss_one (ps_ret (pe_call cR.ok (hr.mono (by decide)) (by rfl) cR.gl cR.kp cR.bd .nil pass0 (pa_cons (pe_lc (own := [("other", 3)]) (g := gName 3) (tt := tTest (tOp (rNeD K) (tVar 3) (tVar 1))) rfl nd (pi_tup (pv 0)) (blkOk_by (own := [("other", 3)]) (N := NSd) (sc := defScope sSide) (by decide +kernel)) (fun _ _ _ _ _ => (pg_name (i := 3) nd rfl (Or.inl rfl))) (fun _ _ _ _ _ => (pts_one (pt_cmpR (op_neD hr.units) (pv 3) (pv 1) (nomark _)))) (fun _ _ _ _ _ => (pv 3))) (pa_cons (pv 2) pa_nil))))), ?_⟩)
  · obtain ⟨p, o, x, ks, zs, t, rfl, _⟩ := h
    rfl
  · obtain ⟨p, o, x, ks, zs, t, rfl, hp, ta, ho, ot, oz, zk, xk, k40, zl, k⟩ := h
    walk_at "rd"
    refine Rd.lcm' ?_
    refine ⟨_, rfl, p, rfl, ⟨_, SqT.of hp⟩, fun D hD => ?_⟩
    refine lc_ties (walk_tup (xs := rf zs)) (fun u => !decide (u = t)) hD (by omega) (fun H' e => ex_t e (SqT.of hp)) (fun u hu Ha B ea hB => ?_) (fun H4 e4 l4 => ?_)
    · show _ ∧ _
      refine ⟨rfl, ?_⟩
      walk_at "rd"
      refine nePr_of (ta.ex ea u hu) (ea _ _ ho) (oz u.2 (List.mem_map.mpr ⟨u, hu, rfl⟩)) ot ⟨_, rfl, ?_⟩
      refine hB _ _ (Ex.refl _) fun _ R hR => ?_
      walk_at "rd"
      exact hR _ (Ex.refl _)
    · walk_at "rd"
      have lf : (zs.filter fun u => !decide (u.2 = t)).length ≤ 20 := Nat.le_trans (List.length_filter_le _ _) zl
      refine ⟨D, zs.filter fun u => !decide (u.2 = t), x, ks, rfl, .inl l4, fun u hu => ta.ex e4 u (List.mem_filter.mp hu).1, by omega, by omega, xk, fun u hu => zk u.2 (List.mem_map.mpr ⟨u, (List.mem_filter.mp hu).1, rfl⟩), fun l so nd' h r3 H5 e5 hr3 => ?_⟩
      rw [but_tl] at h
      exact k r3 H5 l (e4.trans e5) so nd' (fun y => (h y).trans rch_con) hr3
theorem scWayIn : FnScope ["web", "tree", "a", "b"] ["web", "tree", "a", "b"] (defScope sWayIn) := ⟨rfl, rfl, rfl, by decide +kernel, rfl, by decide +kernel, by decide +kernel⟩
theorem ok_wayin {f C : Addr} {fd : FuncData} (F : Fun K "way_in" "way_in" sWayIn f fd) (cT : Cl P w K mg base 4 "need_tree" ["web", "tree"] (spNeedT C)) (cP : Cl P w K mg base 3 "need_place" ["web", "place"] (spNeedP C)) (cW : Cl P w K mg base 6 "_way" ["web", "tree", "a", "b"] (spWay C)) : FnOk P w K mg base CX0 7 f fd ["web", "tree", "a", "b"] (spWayIn C) := by
  have nd := scWayIn.nd
  refine F.ok scWayIn (fun vs H Q E h => ?_) (fun cdv A outer s H vs Q E hr h => ⟨_, (pss_cons (ps_expr (pe_call cT.ok (hr.mono (by decide)) (by rfl) cT.gl cT.kp cT.bd .nil pass0 (pa_cons (pv 0) (pa_cons (pv 1) pa_nil))))
    (pss_cons (ps_expr (pe_call cP.ok (hr.mono (by decide)) (by rfl) cP.gl cP.kp cP.bd .nil pass0 (pa_cons (pv 0) (pa_cons (pv 2) pa_nil))))
    (pss_cons (ps_expr (pe_call cP.ok (hr.mono (by decide)) (by rfl) cP.gl cP.kp cP.bd .nil pass0 (pa_cons (pv 0) (pa_cons (pv 3) pa_nil))))
    (pss_one (ps_ret (pe_call cW.ok (hr.mono (by decide)) (by rfl) cW.gl cW.kp cW.bd .nil pass0 (pa_cons (pv 0) (pa_cons (pv 1) (pa_cons (pv 2) (pa_cons (pv 3) pa_nil)))))))))), ?_⟩)
  · obtain ⟨wb, p, a, b, ks, ys, zs, rfl, _⟩ := h
    rfl
  · obtain ⟨wb, p, a, b, ks, ys, zs, rfl, t, ak, bk, k⟩ := h
    walk_at "rd"
    refine ⟨wb, p, ks, ys, zs, rfl, t, fun H1 e1 => ?_⟩
    have t1 := t.ex e1
    walk_at "rd"
    refine ⟨wb, ks, ys, a, rfl, t1.web, ak, ?_⟩
    walk_at "rd"
    refine ⟨wb, ks, ys, b, rfl, t1.web, bk, ?_⟩
    walk_at "rd"
    exact ⟨wb, p, a, b, ks, ys, zs, rfl, t1, ak, bk, fun q H' l e w hq => k q H' l (e1.trans e) w hq⟩
theorem scRingC : FnScope NRg ["web", "tree", "tie"] (defScope sRingC) := ⟨rfl, rfl, rfl, by decide +kernel, rfl, by decide +kernel, by decide +kernel⟩
theorem ok_ringc {f C : Addr} {fd : FuncData} (F : Fun K "ring_closed" "ring_closed" sRingC f fd) (cT : Cl P w K mg base 4 "need_tree" ["web", "tree"] (spNeedT C)) (cO : Cl P w K mg base 3 "_need_off" ["web", "tree", "tie"] (spNeedOff C)) (cW : Cl P w K mg base 6 "_way" ["web", "tree", "a", "b"] (spWay C)) (cL : Cl P w K mg base 1 "least_rotation" ["row"] spLeast) (gMi : mg "min" = none) : FnOk P w K mg base CX0 7 f fd ["web", "tree", "tie"] (spRingC C) := by
  have nd := scRingC.nd
  refine F.ok scRingC (fun vs H Q E h => ?_) (fun cdv A outer s H vs Q E hr h => ⟨_, (pss_cons (ps_expr (pe_call cT.ok (hr.mono (by decide)) (by rfl) cT.gl cT.kp cT.bd .nil pass0 (pa_cons (pv 0) (pa_cons (pv 1) pa_nil))))
    (pss_cons (ps_expr (pe_call cO.ok (hr.mono (by decide)) (by rfl) cO.gl cO.kp cO.bd .nil pass0 (pa_cons (pv 0) (pa_cons (pv 1) (pa_cons (pv 2) pa_nil)))))
    (pss_cons (ps_set (i := 3) nd rfl (Or.inl rfl) (pe_call cW.ok (hr.mono (by decide)) (by rfl) cW.gl cW.kp cW.bd .nil pass0 (pa_cons (pv 0) (pa_cons (pv 1) (pa_cons (pe_ix ix_tup (pv 2) pe_int (fun _ _ => rfl)) (pa_cons (pe_ix ix_tup (pv 2) pe_int (fun _ _ => rfl)) pa_nil))))))
    (pss_one (ps_ret (pe_callB (OwMn.cr_min2D rfl hr.units) (by rfl) gMi (by decide +kernel) (pa_cons (pe_call cL.ok (hr.mono (by decide)) (by rfl) cL.gl cL.kp cL.bd .nil pass0 (pa_cons (pv 3) pa_nil)) (pa_cons (pe_call cL.ok (hr.mono (by decide)) (by rfl) cL.gl cL.kp cL.bd .nil pass0 (pa_cons (OwRv.pe_revT (pv 3)) pa_nil)) pa_nil)))))))), ?_⟩)
  · obtain ⟨wb, p, o, u, ks, ys, zs, rfl, _⟩ := h
    rfl
  · obtain ⟨wb, p, o, u, ks, ys, zs, rfl, t, ho, hu, hn, k⟩ := h
    have ok := t.web.ok
    have n9 := ok.nine
    have TO := t.tr.tree ok
    obtain ⟨u1, u2, ul⟩ := ok.ends u hu
    walk_at "rd"
    refine ⟨wb, p, ks, ys, zs, rfl, t, fun H1 e1 => ?_⟩
    have t1 := t.ex e1
    have ho1 : PairAt H1 o u := e1 _ _ ho
    walk_at "rd"
    refine ⟨wb, p, o, ks, ys, zs, u, rfl, t1, ho1, hu, hn, ?_⟩
    walk_at "rd"
    refine Rd.ixt (i := 0) (v := .str u.1) (SqT.of ho1) rfl ?_
    walk_at "rd"
    refine Rd.ixt (i := 1) (v := .str u.2) (SqT.of ho1) rfl ?_
    walk_at "rd"
    refine ⟨wb, p, u.1, u.2, ks, ys, zs, rfl, t1, u1, u2, fun q H2 l e2 wy hq => ?_⟩
    obtain ⟨lnd, l9, l1, lks⟩ := wy.facts ok.knd TO u2
    have l3 := wy.three (fun a => a.elim hn fun z => by
      have y := (ok.ends _ (t.tr.sub _ z)).2.2
      rw [lt_asym ul] at y
      exact nomatch y) (ok.tne u hu)
    walk_at "rd"
    refine ⟨q, l, rfl, hq, lnd, l1, by omega, fun r1 H3 k1 e3 m1 h1 => ?_⟩
    unfold OwRv.tRevT
    walk_at "rd"
    refine ⟨q, _, rfl, SqT.of (e3 _ _ hq), fun rv hrv => ?_⟩
    have e4 : Ex H3 (upd H3 rv (.tup (l.map V.str).reverse)) := Ex.new hrv
    have h4 : (upd H3 rv (.tup (l.map V.str).reverse)) rv = some (.tup (l.reverse.map V.str)) := by rw [upd_same, List.map_reverse]
    generalize upd H3 rv (.tup (l.map V.str).reverse) = H4 at e4 h4 ⊢
    walk_at "rd"
    refine ⟨rv, l.reverse, rfl, h4, (List.reverse_perm l).symm.nodup lnd, by rw [List.length_reverse]; exact l1, by rw [List.length_reverse]; omega, fun r2 H5 k2 e5 m2 h2 => ?_⟩
    walk_at "rd"
    have h1' := (e4.trans e5) _ _ h1
    refine ⟨.ref r1, .ref r2, rowD (rotL l k1), rowD (rotL l.reverse k2), rfl, .tup (SqT.of h1') (dp_strsT _), .tup (SqT.of h2) (dp_strsT _), ⟨fun x hx y hy => ?_, fun x hx => ?_⟩, ?_, ?_⟩
    · rcases List.mem_cons.mp hx with rfl | hx
      · rcases List.mem_cons.mp hy with rfl | hy
        · exact OwP.alike_any _ _
        · rw [List.mem_singleton.mp hy]; exact OwP.alike_any _ _
      · rw [List.mem_singleton.mp hx]
        rcases List.mem_cons.mp hy with rfl | hy
        · exact OwP.alike_any _ _
        · rw [List.mem_singleton.mp hy]; exact OwP.alike_any _ _
    · rcases List.mem_cons.mp hx with rfl | hx
      · exact fun e => nomatch e
      · rw [List.mem_singleton.mp hx]; exact fun e => nomatch e
    · have a := OwP.depth_strs (rotL l k1)
      have b := OwP.depth_strs (rotL l.reverse k2)
      show max (PyData.tuple ((rotL l k1).map PyData.str)).depth (max (PyData.tuple ((rotL l.reverse k2).map PyData.str)).depth 0) ≤ 50
      omega
    · have eM := ring_min lnd l3 m1 m2
      have E5 := (((e1.trans e2).trans e3).trans e4).trans e5
      by_cases c : PySem.W.dataLt (rowD (rotL l.reverse k2)) (rowD (rotL l k1)) = true
      · rw [if_pos c] at eM ⊢
        exact k r2 H5 l k1 E5 wy m1 (by rw [← eM]; exact h2)
      · rw [if_neg c] at eM ⊢
        exact k r1 H5 l k1 E5 wy m1 (by rw [← eM]; exact h1')
theorem scCutC : FnScope ["web", "tree", "tie"] ["web", "tree", "tie"] (defScope sCutC) := ⟨rfl, rfl, rfl, by decide +kernel, rfl, by decide +kernel, by decide +kernel⟩
theorem ok_cutc {f C : Addr} {fd : FuncData} (F : Fun K "cut_closed" "cut_closed" sCutC f fd) (WK : WebK K C) (cT : Cl P w K mg base 4 "need_tree" ["web", "tree"] (spNeedT C)) (cO : Cl P w K mg base 1 "_need_on" ["tree", "tie"] spNeedOn) (cS : Cl P w K mg base 3 "_side" ["tree", "tie", "place"] spSide) (cA : Mt P w K mg base 5 C "ties_across" ["self", "places"] (spWKeep C acrossB)) : FnOk P w K mg base CX0 6 f fd ["web", "tree", "tie"] (spCutC C) := by
  have nd := scCutC.nd
  refine F.ok scCutC (fun vs H Q E h => ?_) (fun cdv A outer s H vs Q E hr h => ⟨_, (pss_cons (ps_expr (pe_call cT.ok (hr.mono (by decide)) (by rfl) cT.gl cT.kp cT.bd .nil pass0 (pa_cons (pv 0) (pa_cons (pv 1) pa_nil))))
    (pss_cons (ps_expr (pe_call cO.ok (hr.mono (by decide)) (by rfl) cO.gl cO.kp cO.bd .nil pass0 (pa_cons (pv 1) (pa_cons (pv 2) pa_nil))))
    (pss_one (ps_ret (pe_meth (pv 0) WK.cls cA.me cA.ok (hr.mono (by decide)) cA.bd .nil pass0 (pa_cons (pe_call cS.ok (hr.mono (by decide)) (by rfl) cS.gl cS.kp cS.bd .nil pass0 (pa_cons (pv 1) (pa_cons (pv 2) (pa_cons (pe_ix ix_tup (pv 2) pe_int (fun _ _ => rfl)) pa_nil)))) pa_nil)))))), ?_⟩)
  · obtain ⟨wb, p, o, u, ks, ys, zs, rfl, _⟩ := h
    rfl
  · obtain ⟨wb, p, o, u, ks, ys, zs, rfl, t, ho, hu, k⟩ := h
    have ok := t.web.ok
    have n9 := ok.nine
    have few := t.few
    have TO := t.tr.tree ok
    obtain ⟨u1, u2⟩ := TO.sub u hu
    walk_at "rd"
    refine ⟨wb, p, ks, ys, zs, rfl, t, fun H1 e1 => ?_⟩
    have t1 := t.ex e1
    have ho1 : PairAt H1 o u := e1 _ _ ho
    walk_at "rd"
    refine ⟨p, o, zs, u, rfl, t1.at_, t1.ta, ho1, hu, t.okP, ?_⟩
    unfold tMeth
    walk_at "rd"
    obtain ⟨dx, pp, q, n, nl, w1, wa, _⟩ := t1.web.at_
    refine ⟨wb, dx, _, rfl, w1, rfl, ?_⟩
    walk_at "rd"
    refine Rd.ixt (i := 0) (v := .str u.1) (SqT.of ho1) rfl ?_
    walk_at "rd"
    refine ⟨p, o, u.1, ks, zs, u, rfl, t1.at_, t1.ta, ho1, t.okP u hu, t.okP, TO.sub, u1, by omega, by omega, fun q H2 l e2 so ln lm hq => ?_⟩
    walk_at "rd"
    have lks : ∀ y ∈ l, y ∈ ks := fun y hy => con_in (fun v hv => TO.sub v (OwG.mem_but.mp hv).1) u1 ((lm y).mp hy)
    have la := ascB_pw (r := OwL2.lt) (fun h g => lt_tr h g) (asc_sorted so ln)
    refine ⟨wb, q, ks, l, ys, rfl, t1.web.ex e2, ⟨hq, by have := OwG.nd_le ln lks; omega, lks, la⟩, fun r H3 cs e3 hr3 tc mc => ?_⟩
    exact k r H3 l cs ((e1.trans e2).trans e3) lm hr3 tc mc
theorem scSideOf : FnScope ["web", "tree", "tie", "place"] ["web", "tree", "tie", "place"] (defScope sSideOf) := ⟨rfl, rfl, rfl, by decide +kernel, rfl, by decide +kernel, by decide +kernel⟩
theorem ok_sideof {f C : Addr} {fd : FuncData} (F : Fun K "side_of" "side_of" sSideOf f fd) (cT : Cl P w K mg base 4 "need_tree" ["web", "tree"] (spNeedT C)) (cO : Cl P w K mg base 1 "_need_on" ["tree", "tie"] spNeedOn) (cP : Cl P w K mg base 3 "need_place" ["web", "place"] (spNeedP C)) (cS : Cl P w K mg base 3 "_side" ["tree", "tie", "place"] spSide) : FnOk P w K mg base CX0 5 f fd ["web", "tree", "tie", "place"] (spSideOf C) := by
  have nd := scSideOf.nd
  refine F.ok scSideOf (fun vs H Q E h => ?_) (fun cdv A outer s H vs Q E hr h => ⟨_, (pss_cons (ps_expr (pe_call cT.ok (hr.mono (by decide)) (by rfl) cT.gl cT.kp cT.bd .nil pass0 (pa_cons (pv 0) (pa_cons (pv 1) pa_nil))))
    (pss_cons (ps_expr (pe_call cO.ok (hr.mono (by decide)) (by rfl) cO.gl cO.kp cO.bd .nil pass0 (pa_cons (pv 1) (pa_cons (pv 2) pa_nil))))
    (pss_cons (ps_expr (pe_call cP.ok (hr.mono (by decide)) (by rfl) cP.gl cP.kp cP.bd .nil pass0 (pa_cons (pv 0) (pa_cons (pv 3) pa_nil))))
    (pss_one (ps_ret (pe_call cS.ok (hr.mono (by decide)) (by rfl) cS.gl cS.kp cS.bd .nil pass0 (pa_cons (pv 1) (pa_cons (pv 2) (pa_cons (pv 3) pa_nil))))))))), ?_⟩)
  · obtain ⟨wb, p, o, u, x, ks, ys, zs, rfl, _⟩ := h
    rfl
  · obtain ⟨wb, p, o, u, x, ks, ys, zs, rfl, t, ho, hu, xk, k⟩ := h
    have ok := t.web.ok
    have n9 := ok.nine
    have few := t.few
    have TO := t.tr.tree ok
    walk_at "rd"
    refine ⟨wb, p, ks, ys, zs, rfl, t, fun H1 e1 => ?_⟩
    have t1 := t.ex e1
    have ho1 : PairAt H1 o u := e1 _ _ ho
    walk_at "rd"
    refine ⟨p, o, zs, u, rfl, t1.at_, t1.ta, ho1, hu, t.okP, ?_⟩
    walk_at "rd"
    refine ⟨wb, ks, ys, x, rfl, t1.web, xk, ?_⟩
    walk_at "rd"
    exact ⟨p, o, x, ks, zs, u, rfl, t1.at_, t1.ta, ho1, t.okP u hu, t.okP, TO.sub, xk, by omega, by omega, fun q H2 l e2 so ln lm hq => k q H2 l (e1.trans e2) so ln lm hq⟩
end
end OwW


namespace OwW
open PySem PyProof.Rows L2 L2H OwX Rd Evl OwAn
abbrev sExch : Stmt := top 35
abbrev sTold : Stmt := top 62
abbrev NEx : List Str := ["web", "tree", "out", "new", "changed", "tie"]
abbrev NTo : List Str := ["_law_web_here", "_law_tree_here", "_law_out", "_law_new"]
/-- a class of errors without fields -/
structure EV (K : PySem.W.Frag) (mg : Str → Option Value) (nm : Str) (C : Addr) : Prop where
  g : mg nm = some (.ref C)
  x : PySem.W.excIn K C [.type "ValueError", .type "Exception", .type "BaseException", .type "object"] "ValueError.__new__" = true
  k : PySem.W.keepIn K (.ref C) = true
  s : PySem.W.subIn K (.ref C) (.type "BaseException") = some true
  t : PySem.W.typeIn K (.ref C) = some (.type "type")
/-- a def of the module that can be called and may raise -/
structure ClE (P : Program) (w : World) (K : PySem.W.Frag) (mg : Str → Option Value) (base : Heap) (k : Nat) (nm : Str) (ps : List Str) (sp : Sp) where
  f : Addr
  fd : FuncData
  ok : FnOk P w K mg base (L2.CX P w) k f fd ps sp
  gl : mg nm = some (.ref f)
  kp : PySem.W.keepIn K (.ref f) = true
  bd : Binds K fd ps []
/-- what an exchange is asked with -/
structure XIn (CW : Addr) (H : Hp) (wb p o n : Addr) (u v : Str × Str) (ks : List Str) (ys zs : TL) : Prop where
  t : TreeAt CW H wb p ks ys zs
  ho : PairAt H o u
  hn : PairAt H n v
  hu : u ∈ zs.map (·.2)
  hv : v ∈ ys.map (·.2)
  nv : ¬ v ∈ zs.map (·.2)
/-- .. and what comes of it -/
def XOut (H : Hp) (u v : Str × Str) (ks : List Str) (ys zs : TL) (Q : Addr → Hp → Prop) : Prop :=
  ∀ q H' (es : TL), Ex H H' → ¬ OwG.Con (OwG.but (zs.map (·.2)) u) v.1 v.2 → H' q = some (.tup (rf es)) → TA H' es → TrOk ks (ys.map (·.2)) (es.map (·.2)) → (∀ t, t ∈ es.map (·.2) ↔ t ∈ OwG.but (zs.map (·.2)) u ∨ t = v) → Q q H'
def spExchX (CW CO : Addr) : Sp := fun vs H Q E => ∃ (wb p o n : Addr) (u v : Str × Str) (ks : List Str) (ys zs : TL), vs = [.ref wb, .ref p, .ref o, .ref n] ∧ XIn CW H wb p o n u v ks ys zs ∧ XOut H u v ks ys zs (fun q => Q (.ref q)) ∧
  (∀ H', Ex H H' → OwG.Con (OwG.but (zs.map (·.2)) u) v.1 v.2 → E (.ref CO) none H')
def spExch (CW : Addr) : Sp := fun vs H Q _ => ∃ (wb p o n : Addr) (u v : Str × Str) (ks : List Str) (ys zs : TL), vs = [.ref wb, .ref p, .ref o, .ref n] ∧ XIn CW H wb p o n u v ks ys zs ∧ XOut H u v ks ys zs (fun q => Q (.ref q)) ∧
  ¬ OwG.Con (OwG.but (zs.map (·.2)) u) v.1 v.2
def spTold (CW : Addr) : Sp := fun vs H Q _ => ∃ (wb p o n : Addr) (u v : Str × Str) (ks : List Str) (ys zs : TL), vs = [.ref wb, .ref p, .ref o, .ref n] ∧ XIn CW H wb p o n u v ks ys zs ∧ XOut H u v ks ys zs (fun q => Q (.ref q)) ∧
  (∀ H', Ex H H' → OwG.Con (OwG.but (zs.map (·.2)) u) v.1 v.2 → Q .non H')
section
variable {P : Program} {w : World} {K : PySem.W.Frag} {mg : Str → Option Value} {base : Heap}
theorem scExch : FnScope NEx ["web", "tree", "out", "new"] (defScope sExch) := ⟨rfl, rfl, rfl, by decide +kernel, rfl, by decide +kernel, by decide +kernel⟩
theorem ok_exchX {f C CO : Addr} {fd : FuncData} (F : Fun K "exchanged" "exchanged" sExch f fd) (cT : Cl P w K mg base 4 "need_tree" ["web", "tree"] (spNeedT C)) (cO : Cl P w K mg base 1 "_need_on" ["tree", "tie"] spNeedOn) (cF : Cl P w K mg base 3 "_need_off" ["web", "tree", "tie"] (spNeedOff C)) (cJ : Cl P w K mg base 3 "is_joining_tree" ["web", "value"] (spIJT C)) (gTu : mg "tuple" = none) (gSo : mg "sorted" = none) (ev : EV K mg "InvalidOperation" CO) : FnOk P w K mg base (L2.CX P w) 5 f fd ["web", "tree", "out", "new"] (spExchX C CO) := by
  have nd := scExch.nd
  refine F.okX scExch (fun vs H Q E h => ?_) (fun cdv A outer s H vs Q E hr h => ⟨_, (pss_cons (ps_expr (pe_call cT.ok (hr.mono (by decide)) (by rfl) cT.gl cT.kp cT.bd .nil pass0 (pa_cons (pv 0) (pa_cons (pv 1) pa_nil))))
    (pss_cons (ps_expr (pe_call cO.ok (hr.mono (by decide)) (by rfl) cO.gl cO.kp cO.bd .nil pass0 (pa_cons (pv 1) (pa_cons (pv 2) pa_nil))))
    (pss_cons (ps_expr (pe_call cF.ok (hr.mono (by decide)) (by rfl) cF.gl cF.kp cF.bd .nil pass0 (pa_cons (pv 0) (pa_cons (pv 1) (pa_cons (pv 3) pa_nil)))))
    (pss_cons (ps_set (i := 4) nd rfl (Or.inl rfl) (pe_callTy call_tuple_of (by rfl) gTu (by decide +kernel) (pa_cons (pe_callB (OwP.cr_sortTp hr.units) (by rfl) gSo (by decide +kernel) (pa_cons (pe_op op_cat (pe_lc (own := [("tie", 5)]) (g := gName 5) (tt := tTest (tOp (rNeD K) (tVar 5) (tVar 2))) rfl nd (pi_tup (pv 1)) (blkOk_by (own := [("tie", 5)]) (N := NEx) (sc := defScope sExch) (by decide +kernel)) (fun _ _ _ _ _ => (pg_name (i := 5) nd rfl (Or.inl rfl))) (fun _ _ _ _ _ => (pts_one (pt_cmpR (op_neD hr.units) (pv 5) (pv 2) (nomark _)))) (fun _ _ _ _ _ => (pv 5))) (pe_lst (pa_cons (pv 3) pa_nil))) pa_nil)) pa_nil)))
    (pss_cons (ps_if (pt_not (pt_val (pe_call cJ.ok (hr.mono (by decide)) (by rfl) cJ.gl cJ.kp cJ.bd .nil pass0 (pa_cons (pv 0) (pa_cons (pv 4) pa_nil))) (fun _ => rfl))) (pss_one (ps_raise rfl (takes_of rfl rfl rfl rfl) (SkE.pmk_own1 PySem.F.excBase_ValueError ev.x ev.g ev.k (raises_own ev.s ev.t) (by rfl) pe_str))) pss_nil)
    (pss_one (ps_ret (pv 4)))))))), ?_⟩)
  · obtain ⟨wb, p, o, n, u, v, ks, ys, zs, rfl, _⟩ := h
    rfl
  · obtain ⟨wb, p, o, n, u, v, ks, ys, zs, rfl, i, k, kx⟩ := h
    have ok := i.t.web.ok
    have n9 := ok.nine
    have few := i.t.few
    have TO := i.t.tr.tree ok
    walk_at "rd"
    refine ⟨wb, p, ks, ys, zs, rfl, i.t, fun H1 e1 => ?_⟩
    have t1 := i.t.ex e1
    have ho1 : PairAt H1 o u := e1 _ _ i.ho
    have hn1 : PairAt H1 n v := e1 _ _ i.hn
    walk_at "rd"
    refine ⟨p, o, zs, u, rfl, t1.at_, t1.ta, ho1, i.hu, i.t.okP, ?_⟩
    walk_at "rd"
    refine ⟨wb, p, n, ks, ys, zs, v, rfl, t1, hn1, i.hv, i.nv, ?_⟩
    walk_at "rd"
    refine Rd.lcm' ?_
    refine ⟨_, rfl, p, rfl, ⟨_, SqT.of t1.at_⟩, fun D hD => ?_⟩
    refine lc_ties (walk_tup (xs := rf zs)) (fun t => !decide (t = u)) hD (by omega) (fun H' e => ex_t e (SqT.of t1.at_)) (fun t ht Ha B ea hB => ?_) (fun H4 e4 l4 => ?_)
    · show _ ∧ _
      refine ⟨rfl, ?_⟩
      walk_at "rd"
      refine nePr_of (t1.ta.ex ea t ht) (ea _ _ ho1) (i.t.okP t.2 (List.mem_map.mpr ⟨t, ht, rfl⟩)) (i.t.okP u i.hu) ⟨_, rfl, ?_⟩
      refine hB _ _ (Ex.refl _) fun _ R hR => ?_
      walk_at "rd"
      exact hR _ (Ex.refl _)
    · walk_at "rd"
      have lf : (zs.filter fun t => !decide (t.2 = u)).length ≤ 8 := Nat.le_trans (List.length_filter_le _ _) few
      refine ⟨small64 (n := 1) (by decide), fun N hN => ?_⟩
      have e5 : Ex H4 (upd H4 N (.lst [V.ref n])) := Ex.new hN
      have h5 : (upd H4 N (.lst [V.ref n])) N = some (.lst [V.ref n]) := upd_same
      generalize upd H4 N (.lst [V.ref n]) = H5 at e5 h5 ⊢
      walk_at "rd"
      refine cat_of (e5 _ _ l4) h5 (by unfold rf; rw [List.length_map, List.length_singleton, sizeLine_eq]; omega) fun C1 H6 e6 h6 _ => ?_
      have h6' : H6 C1 = some (.lst (rf ((zs.filter fun t => !decide (t.2 = u)) ++ [(n, v)]))) := by
        rw [h6]
        unfold rf
        rw [List.map_append]
        rfl
      have E6 := ((e1.trans e4).trans e5).trans e6
      have ta6 : TA H6 ((zs.filter fun t => !decide (t.2 = u)) ++ [(n, v)]) := fun t ht => by
        rcases List.mem_append.mp ht with y | y
        · exact i.t.ta.ex E6 t (List.mem_filter.mp y).1
        · rw [List.mem_singleton.mp y]
          exact E6 _ _ i.hn
      have em : ((zs.filter fun t => !decide (t.2 = u)) ++ [(n, v)]).map (·.2) = OwG.but (zs.map (·.2)) u ++ [v] := by
        rw [List.map_append, but_tl]
        rfl
      have nd6 : (((zs.filter fun t => !decide (t.2 = u)) ++ [(n, v)]).map (·.2)).Nodup := by
        rw [em]
        refine List.nodup_append.mpr ⟨TO.nd.filter _, by simp, fun a ha b hb e => i.nv ?_⟩
        rw [List.mem_singleton.mp hb] at e
        rw [← e]
        exact (OwG.mem_but.mp ha).1
      walk_at "rd"
      refine sort_ties h6' ta6 nd6 (by rw [List.length_append, List.length_singleton]; omega) fun S H7 es e7 _ s7 ta7 pm asc => ?_
      walk_at "rd"
      refine ⟨S, _, rfl, .inl ⟨SqL.of s7, fun q hq => ?_⟩⟩
      have e8 : Ex H7 (upd H7 q (.tup (rf es))) := Ex.new hq
      have h8 : (upd H7 q (.tup (rf es))) q = some (.tup (rf es)) := upd_same
      show gName 4 _ _ (upd H7 q (.tup (rf es))) _
      generalize upd H7 q (.tup (rf es)) = H8 at e8 h8 ⊢
      have E8 := (E6.trans e7).trans e8
      have mem : ∀ t, t ∈ es.map (·.2) ↔ t ∈ OwG.but (zs.map (·.2)) u ∨ t = v := fun t => by
        rw [(pm.map (·.2)).mem_iff, em, List.mem_append, List.mem_singleton]
      have sub : ∀ t ∈ es.map (·.2), t ∈ ys.map (·.2) := fun t ht => by
        rcases (mem t).mp ht with z | z
        · exact i.t.tr.sub t (OwG.mem_but.mp z).1
        · rw [z]; exact i.hv
      have ln : es.length + 1 = ks.length := by
        have a := pm.length_eq
        have b := OwG.but_len TO.nd i.hu
        have c := congrArg List.length em
        have d := i.t.tr.len
        rw [List.length_map, List.length_append, List.length_append, List.length_singleton, List.length_singleton] at c
        rw [List.length_append, List.length_singleton] at a
        omega
      have sw := TO.swap ok.knd i.hu (⟨(ok.ends v i.hv).1, (ok.ends v i.hv).2.1⟩ : v.1 ∈ ks ∧ v.2 ∈ ks) mem
      walk_at "rd"
      refine ⟨wb, q, ks, ys, es, rfl, i.t.web.ex E8, h8, ta7.ex e8, sub, asc, ln, fun H9 c e9 hc => ⟨_, rfl, ?_⟩⟩
      have E9 := E8.trans e9
      cases c with
      | true =>
        refine Rd.iteF (by decide) ?_
        walk_at "rd"
        exact k q H9 es E9 (sw.mp (hc.mp rfl)) (e9 _ _ h8) ((ta7.ex e8).ex e9) ⟨sub, asc, by rw [List.length_map]; exact ln, hc.mp rfl⟩ mem
      | false =>
        refine Rd.iteT rfl ?_
        walk_at "rd"
        exact kx H9 E9 (Classical.byContradiction fun z => Bool.false_ne_true (hc.mpr (sw.mpr z)))
theorem ok_exch {f C : Addr} {fd : FuncData} (F : Fun K "exchanged" "exchanged" sExch f fd) (cT : Cl P w K mg base 4 "need_tree" ["web", "tree"] (spNeedT C)) (cO : Cl P w K mg base 1 "_need_on" ["tree", "tie"] spNeedOn) (cF : Cl P w K mg base 3 "_need_off" ["web", "tree", "tie"] (spNeedOff C)) (cJ : Cl P w K mg base 3 "is_joining_tree" ["web", "value"] (spIJT C)) (gTu : mg "tuple" = none) (gSo : mg "sorted" = none) : FnOk P w K mg base CX0 5 f fd ["web", "tree", "out", "new"] (spExch C) := by
  have nd := scExch.nd
  refine F.ok scExch (fun vs H Q E h => ?_) (fun cdv A outer s H vs Q E hr h => ⟨_, (pss_cons (ps_expr (pe_call cT.ok (hr.mono (by decide)) (by rfl) cT.gl cT.kp cT.bd .nil pass0 (pa_cons (pv 0) (pa_cons (pv 1) pa_nil))))
    (pss_cons (ps_expr (pe_call cO.ok (hr.mono (by decide)) (by rfl) cO.gl cO.kp cO.bd .nil pass0 (pa_cons (pv 1) (pa_cons (pv 2) pa_nil))))
    (pss_cons (ps_expr (pe_call cF.ok (hr.mono (by decide)) (by rfl) cF.gl cF.kp cF.bd .nil pass0 (pa_cons (pv 0) (pa_cons (pv 1) (pa_cons (pv 3) pa_nil)))))
    (pss_cons (ps_set (i := 4) nd rfl (Or.inl rfl) (pe_callTy call_tuple_of (by rfl) gTu (by decide +kernel) (pa_cons (pe_callB (OwP.cr_sortTp hr.units) (by rfl) gSo (by decide +kernel) (pa_cons (pe_op op_cat (pe_lc (own := [("tie", 5)]) (g := gName 5) (tt := tTest (tOp (rNeD K) (tVar 5) (tVar 2))) rfl nd (pi_tup (pv 1)) (blkOk_by (own := [("tie", 5)]) (N := NEx) (sc := defScope sExch) (by decide +kernel)) (fun _ _ _ _ _ => (pg_name (i := 5) nd rfl (Or.inl rfl))) (fun _ _ _ _ _ => (pts_one (pt_cmpR (op_neD hr.units) (pv 5) (pv 2) (nomark _)))) (fun _ _ _ _ _ => (pv 5))) (pe_lst (pa_cons (pv 3) pa_nil))) pa_nil)) pa_nil)))
    (pss_cons (ps_if (pt_not (pt_val (pe_call cJ.ok (hr.mono (by decide)) (by rfl) cJ.gl cJ.kp cJ.bd .nil pass0 (pa_cons (pv 0) (pa_cons (pv 4) pa_nil))) (fun _ => rfl))) pss_dead pss_nil)
    (pss_one (ps_ret (pv 4)))))))), ?_⟩)
  · obtain ⟨wb, p, o, n, u, v, ks, ys, zs, rfl, _⟩ := h
    rfl
  · obtain ⟨wb, p, o, n, u, v, ks, ys, zs, rfl, i, k, kx⟩ := h
    have ok := i.t.web.ok
    have n9 := ok.nine
    have few := i.t.few
    have TO := i.t.tr.tree ok
    walk_at "rd"
    refine ⟨wb, p, ks, ys, zs, rfl, i.t, fun H1 e1 => ?_⟩
    have t1 := i.t.ex e1
    have ho1 : PairAt H1 o u := e1 _ _ i.ho
    have hn1 : PairAt H1 n v := e1 _ _ i.hn
    walk_at "rd"
    refine ⟨p, o, zs, u, rfl, t1.at_, t1.ta, ho1, i.hu, i.t.okP, ?_⟩
    walk_at "rd"
    refine ⟨wb, p, n, ks, ys, zs, v, rfl, t1, hn1, i.hv, i.nv, ?_⟩
    walk_at "rd"
    refine Rd.lcm' ?_
    refine ⟨_, rfl, p, rfl, ⟨_, SqT.of t1.at_⟩, fun D hD => ?_⟩
    refine lc_ties (walk_tup (xs := rf zs)) (fun t => !decide (t = u)) hD (by omega) (fun H' e => ex_t e (SqT.of t1.at_)) (fun t ht Ha B ea hB => ?_) (fun H4 e4 l4 => ?_)
    · show _ ∧ _
      refine ⟨rfl, ?_⟩
      walk_at "rd"
      refine nePr_of (t1.ta.ex ea t ht) (ea _ _ ho1) (i.t.okP t.2 (List.mem_map.mpr ⟨t, ht, rfl⟩)) (i.t.okP u i.hu) ⟨_, rfl, ?_⟩
      refine hB _ _ (Ex.refl _) fun _ R hR => ?_
      walk_at "rd"
      exact hR _ (Ex.refl _)
    · walk_at "rd"
      have lf : (zs.filter fun t => !decide (t.2 = u)).length ≤ 8 := Nat.le_trans (List.length_filter_le _ _) few
      refine ⟨small64 (n := 1) (by decide), fun N hN => ?_⟩
      have e5 : Ex H4 (upd H4 N (.lst [V.ref n])) := Ex.new hN
      have h5 : (upd H4 N (.lst [V.ref n])) N = some (.lst [V.ref n]) := upd_same
      generalize upd H4 N (.lst [V.ref n]) = H5 at e5 h5 ⊢
      walk_at "rd"
      refine cat_of (e5 _ _ l4) h5 (by unfold rf; rw [List.length_map, List.length_singleton, sizeLine_eq]; omega) fun C1 H6 e6 h6 _ => ?_
      have h6' : H6 C1 = some (.lst (rf ((zs.filter fun t => !decide (t.2 = u)) ++ [(n, v)]))) := by
        rw [h6]
        unfold rf
        rw [List.map_append]
        rfl
      have E6 := ((e1.trans e4).trans e5).trans e6
      have ta6 : TA H6 ((zs.filter fun t => !decide (t.2 = u)) ++ [(n, v)]) := fun t ht => by
        rcases List.mem_append.mp ht with y | y
        · exact i.t.ta.ex E6 t (List.mem_filter.mp y).1
        · rw [List.mem_singleton.mp y]
          exact E6 _ _ i.hn
      have em : ((zs.filter fun t => !decide (t.2 = u)) ++ [(n, v)]).map (·.2) = OwG.but (zs.map (·.2)) u ++ [v] := by
        rw [List.map_append, but_tl]
        rfl
      have nd6 : (((zs.filter fun t => !decide (t.2 = u)) ++ [(n, v)]).map (·.2)).Nodup := by
        rw [em]
        refine List.nodup_append.mpr ⟨TO.nd.filter _, by simp, fun a ha b hb e => i.nv ?_⟩
        rw [List.mem_singleton.mp hb] at e
        rw [← e]
        exact (OwG.mem_but.mp ha).1
      walk_at "rd"
      refine sort_ties h6' ta6 nd6 (by rw [List.length_append, List.length_singleton]; omega) fun S H7 es e7 _ s7 ta7 pm asc => ?_
      walk_at "rd"
      refine ⟨S, _, rfl, .inl ⟨SqL.of s7, fun q hq => ?_⟩⟩
      have e8 : Ex H7 (upd H7 q (.tup (rf es))) := Ex.new hq
      have h8 : (upd H7 q (.tup (rf es))) q = some (.tup (rf es)) := upd_same
      show gName 4 _ _ (upd H7 q (.tup (rf es))) _
      generalize upd H7 q (.tup (rf es)) = H8 at e8 h8 ⊢
      have E8 := (E6.trans e7).trans e8
      have mem : ∀ t, t ∈ es.map (·.2) ↔ t ∈ OwG.but (zs.map (·.2)) u ∨ t = v := fun t => by
        rw [(pm.map (·.2)).mem_iff, em, List.mem_append, List.mem_singleton]
      have sub : ∀ t ∈ es.map (·.2), t ∈ ys.map (·.2) := fun t ht => by
        rcases (mem t).mp ht with z | z
        · exact i.t.tr.sub t (OwG.mem_but.mp z).1
        · rw [z]; exact i.hv
      have ln : es.length + 1 = ks.length := by
        have a := pm.length_eq
        have b := OwG.but_len TO.nd i.hu
        have c := congrArg List.length em
        have d := i.t.tr.len
        rw [List.length_map, List.length_append, List.length_append, List.length_singleton, List.length_singleton] at c
        rw [List.length_append, List.length_singleton] at a
        omega
      have sw := TO.swap ok.knd i.hu (⟨(ok.ends v i.hv).1, (ok.ends v i.hv).2.1⟩ : v.1 ∈ ks ∧ v.2 ∈ ks) mem
      walk_at "rd"
      refine ⟨wb, q, ks, ys, es, rfl, i.t.web.ex E8, h8, ta7.ex e8, sub, asc, ln, fun H9 c e9 hc => ⟨_, rfl, ?_⟩⟩
      have E9 := E8.trans e9
      have ct : c = true := hc.mpr (sw.mpr kx)
      subst ct
      refine Rd.iteF (by decide) ?_
      walk_at "rd"
      exact k q H9 es E9 kx (e9 _ _ h8) ((ta7.ex e8).ex e9) ⟨sub, asc, by rw [List.length_map]; exact ln, hc.mp rfl⟩ mem
theorem scTold : FnScope NTo ["_law_web_here", "_law_tree_here", "_law_out", "_law_new"] (defScope sTold) := ⟨rfl, rfl, rfl, by decide +kernel, rfl, by decide +kernel, by decide +kernel⟩
theorem ok_told {f C CO : Addr} {fd : FuncData} (F : Fun K "_law_told" "_law_told" sTold f fd) (cX : ClE P w K mg base 5 "exchanged" ["web", "tree", "out", "new"] (spExchX C CO)) (gO : mg "InvalidOperation" = some (.ref CO)) (xO : PySem.W.exmOne K (.ref CO) (.ref CO) = some true) : FnOk P w K mg base CX0 6 f fd ["_law_web_here", "_law_tree_here", "_law_out", "_law_new"] (spTold C) := by
  have nd := scTold.nd
  refine F.ok scTold (fun vs H Q E h => ?_) (fun cdv A outer s H vs Q E hr h => ⟨_, (pss_one (ps_try_only rfl rfl ⟨rfl, by decide, .inl gO⟩ takes0 (fun W pn xe tk _ => (pss_one (ps_ret (pe_callS cX.ok (hr.mono (by decide)) rfl cX.gl cX.kp cX.bd (fun σ => passAt tk σ) (pa_cons (pv 0) (pa_cons (pv 1) (pa_cons (pv 2) (pa_cons (pv 3) pa_nil)))))))) (fun a oe cls d pn _ _ => (pss_one (ps_ret pe_non))))), ?_⟩)
  · obtain ⟨wb, p, o, n, u, v, ks, ys, zs, rfl, _⟩ := h
    rfl
  · obtain ⟨wb, p, o, n, u, v, ks, ys, zs, rfl, i, k, kn⟩ := h
    walk_at "rd"
    refine ⟨wb, p, o, n, u, v, ks, ys, zs, rfl, i, k, fun H' e c => ?_⟩
    refine ⟨true, xO, fun _ a ha => ?_, fun z => nomatch z⟩
    walk_at "rd"
    exact kn H' e c
end
end OwW

/-! d.items() of a dict of texts as a view, and sorted of it. -/
namespace OwSI
open PySem PySem.W PySem.Calls PyProof.Rows PyProof.V PySem.Spec L2 L2.DX
section
variable {prog : Program} {w : World} {A : Around} {E : Value → Shared → Prop} {s : Shared} {K : Type} [DecidableEq K] {knd : KeyKind prog w K} {r d ep : Nat} {kvs : List (K × Value)}
theorem sorted_view {Q : Value → Shared → Prop} (hh : A.handled = none) (hv : s.heap.IsItemsView r d) (hm : s.heap.DictAt knd d kvs ep) (hn : kvs.length ≤ sizeLine)
    (h : ∀ (h' : Heap) (tk : Nat) (as : List Addr), (∀ b o, s.heap.get? b = some o → h'.get? b = some o) → as.length = kvs.length → KdxG knd kvs s.heap.objs.size h' as →
      wpAny (model prog w) A.in1 (call (.builtin "list.sort") [.ref h'.objs.size]) (fun _ s' => Q (.ref h'.objs.size) s') E { s with heap := h'.push { cls := .type "list", data := .seq (as.map Value.ref).toArray }, toks := tk }) :
    wpAny (model prog w) A (call (.builtin "sorted") [.ref r]) Q E s := by
  refine call_function_entry kind_sorted plain_sorted entry_sorted (args_sorted1 _) ?_
  unfold Builtin.«sorted»
  refine wpAny_bind (m := checkCount "sorted" 1 1 _) (wpAny_pure ?_)
  refine wpAny_bind (kdx_collect (knd := knd) (A := A.in1) hh hv hm hn fun h' tk as hk hl hG => ?_)
  refine wpAny_bind (wpAny_newList ?_ (by rw [List.length_map, hl]; exact hn))
  have hg := h h' tk as hk hl hG
  refine wpAny_bind (wpAny_holding (wpAny_mono hg (fun _ s' x => ?_) fun _ _ e => e))
  exact wpAny_pure ⟨_, rfl, x⟩
end
section
variable {X : Cx}
def rItemsK : V → List V → Hp → VK → Prop := fun x xs H Q => ∃ (a : Addr) (kvs : List (Key × V)), x = .ref a ∧ xs = [] ∧ H a = some (.dK kvs) ∧ ∀ p, H p = none → Q (.ref p) (upd H p (itemsO p a))
theorem mt_itemsK : MtR X "dict.items" rItemsK := by
  intro pins s σ H x xs v us Q I rx rxs h
  obtain ⟨a, kvs, rfl, rfl, ha, q⟩ := h
  cases rx
  cases rxs
  obtain ⟨hz, hs0, vs, kv, hdo⟩ := I.hok a _ ha
  refine call_meetsIn PySem.F.slot_dict_items hdo.typeIs PySem.F.entry_dict_items (PySem.F.args_dict_items_1 _) (meets_dict_items (mixKind X.prog X.w) a hs0) ⟨⟨vs, hdo⟩, ?_⟩
  have hf : H s.heap.objs.size = none := I.hok.fresh (Nat.le_refl _)
  exact ⟨.ref s.heap.objs.size, upd H s.heap.objs.size (itemsO s.heap.objs.size a), I.laid (t' := s.toks) (fun b u e => Heap.get?_push_of_some _ e) (Nat.le_refl _) (itemsO_ok (Heap.get?_push_size _ rfl)), rfl, q _ hf⟩
abbrev TLs := List (Addr × Str × Str)
/-- sorted(d.items()): the pairs in their order -/
def rSortIS : List V → Hp → VK → Prop := fun vs H Q => ∃ (p a : Addr) (ks : List (Str × Str)), vs = [.ref p] ∧ H p = some (itemsO p a) ∧ H a = some (.dK (ks.map fun e => (Sum.inr e.1, V.str e.2))) ∧ ks.length ≤ 100 ∧
  ∀ (H' : Hp) (l : Addr) (zs : TLs), (∀ b o, H b = some o → H' b = some o) → H' l = some (.lst (zs.map fun z => V.ref z.1)) → (∀ z ∈ zs, H' z.1 = some (.tup [V.str z.2.1, V.str z.2.2])) → (zs.map (·.2)).Perm ks → (zs.map (·.2)).Pairwise (fun a b => OwW.leP a b = true) → Q (.ref l) H'
theorem zip_snd : ∀ (as : List Addr) (ks : List (Str × Str)), as.length = ks.length → (as.zip ks).map (·.2) = ks
  | [], [], _ => rfl
  | [], _ :: _, h => by simp at h
  | _ :: _, [], h => by simp at h
  | a :: as, k :: ks, h => by
    rw [List.zip_cons_cons, List.map_cons, zip_snd as ks (Nat.succ.inj h)]
theorem zip_fst : ∀ (as : List Addr) (ks : List (Str × Str)), as.length = ks.length → (as.zip ks).map (·.1) = as
  | [], [], _ => rfl
  | [], _ :: _, h => by simp at h
  | _ :: _, [], h => by simp at h
  | a :: as, k :: ks, h => by
    rw [List.zip_cons_cons, List.map_cons, zip_fst as ks (Nat.succ.inj h)]
theorem cr_sortIS (hc : X.calm = true) (hu : X.A.units + 64 < cLine) : CallR X (.builtin "sorted") rSortIS := by
  intro pins s σ H xs us Q I r h
  obtain ⟨p, a, ks, rfl, hp, ha, h100, q⟩ := h
  obtain rfl := Vals.ref1 r
  have view : s.heap.IsItemsView p a := (show ObjOk X.prog X.w H s.heap p (itemsO p a) from I.hok p _ hp).1
  obtain ⟨hz, hs0, vs, kv, hdo⟩ := I.hok a _ ha
  obtain ⟨ep, hat⟩ := hdo.dictAt
  have lk : ks.length = vs.length := by
    have z := Paired.length kv
    rwa [List.length_map] at z
  refine sorted_view (knd := mixKind X.prog X.w) (kvs := vs) (ep := ep) (I.ok.hd hc) view hat (by rw [sizeLine_eq]; omega) fun h' tk as hk hl hG => ?_
  have lak : as.length = ks.length := by omega
  have nd : as.Nodup := List.Pairwise.imp (fun {a b} (h : a < b) => Nat.ne_of_lt h) hG.rise
  have I3 : Inv X pins σ H { s with heap := h', toks := tk } := I.kept (t' := tk) hk
  -- the pairs that were made
  have pr : ∀ (j : Nat) (b : Addr), as[j]? = some b → ∃ (e : Str × Str) (t u : Tok), ks[j]? = some e ∧ h'.get? b = some { cls := .type "tuple", data := .seq #[Value.str e.1 t, Value.str e.2 u] } := by
    intro j b hj
    obtain ⟨key, k, x, f1, f2, f3⟩ := hG.pairs j b hj
    have jl : j < ks.length := by
      have := (List.getElem?_eq_some_iff.mp hj).1
      omega
    obtain ⟨e, he⟩ : ∃ e, ks[j]? = some e := ⟨_, List.getElem?_eq_getElem jl⟩
    have hk2 : (ks.map fun e => ((Sum.inr e.1, V.str e.2) : Key × V))[j]? = some (Sum.inr e.1, V.str e.2) := by rw [List.getElem?_map, he]; rfl
    obtain ⟨qv, g1, g2, g3⟩ := LiI.paired_get kv hk2
    rw [f1] at g1
    cases g1
    have rk : RelV (kV (Sum.inr e.1)) key := by
      rw [show (Sum.inr e.1 : Key) = k from g2]
      exact relV_key (show keyIs k key = true from f2)
    obtain ⟨t, rfl⟩ := rk
    obtain ⟨u, rfl⟩ := (show RelV (V.str e.2) x from g3)
    exact ⟨e, t, u, he, f3⟩
  have hob : (h'.push { cls := .type "list", data := .seq (as.map Value.ref).toArray }).get? h'.objs.size = some (seqObj "list" (as.map Value.ref).toArray 0) := Heap.get?_push_size _ rfl
  have ka : ∀ b o, h'.get? b = some o → (h'.push { cls := .type "list", data := .seq (as.map Value.ref).toArray }).get? b = some o := fun b o e => Heap.get?_push_of_some _ e
  have ne0 : ∀ b o, h'.get? b = some o → b ≠ h'.objs.size := fun b o e => Nat.ne_of_lt (Heap.lt_size e)
  generalize hh2 : h'.push { cls := .type "list", data := .seq (as.map Value.ref).toArray } = h2 at hob ka ⊢
  -- the rows as data
  have idx : ∀ z ∈ as.zip ks, ∃ j : Nat, as[j]? = some z.1 ∧ ks[j]? = some z.2 := fun z hz' => by
    obtain ⟨j, hj⟩ := List.mem_iff_getElem?.mp hz'
    exact ⟨j, List.getElem?_zip_eq_some.mp hj⟩
  have vals_e : (as.map Value.ref) = ((as.zip ks).map fun z => ((z.1, [z.2.1, z.2.2]) : Addr × List Str)).map fun p => Value.ref p.1 := by
    rw [List.map_map]
    have z := congrArg (List.map Value.ref) (zip_fst as ks lak)
    rw [List.map_map] at z
    exact z.symm
  have er : EachIs (fun v (b : Addr × List Str) => ∃ cs, Reads h2 v (OwP.enc b) cs ∧ h'.objs.size ∉ cs) (as.map Value.ref) ((as.zip ks).map fun z => ((z.1, [z.2.1, z.2.2]) : Addr × List Str)) := by
    rw [vals_e]
    refine OwP.each_all _ fun b hb => ?_
    obtain ⟨z, hz', rfl⟩ := List.mem_map.mp hb
    obtain ⟨j, j1, j2⟩ := idx z hz'
    obtain ⟨e, t, u, he, hg⟩ := pr j z.1 j1
    have ee : e = z.2 := Option.some.inj (he.symm.trans j2)
    rw [ee] at hg
    refine ⟨[], ?_, fun m => nomatch m⟩
    exact .tuple (ka _ _ hg) rfl rfl (.cons (as := []) (bs := []) (.str _ _) (.cons (as := []) (bs := []) (.str _ _) .nil))
  have eis : EachIs (fun (v : Value) (p : Addr × List Str) => v = .ref p.1) (as.map Value.ref) ((as.zip ks).map fun z => ((z.1, [z.2.1, z.2.2]) : Addr × List Str)) := by
    rw [vals_e]
    exact OwP.each_refs _
  have two : ∀ b ∈ ((as.zip ks).map fun z => ((z.1, [z.2.1, z.2.2]) : Addr × List Str)), b.2.length = 2 := fun b hb => by
    obtain ⟨z, _, rfl⟩ := List.mem_map.mp hb
    rfl
  have zl : (as.zip ks).length = ks.length := by rw [List.length_zip]; omega
  refine list_sort_data (s := { s with heap := h2, toks := tk }) (R := fun (v : Value) (p : Addr × List Str) => v = .ref p.1) (enc := OwP.enc) (bs := (as.zip ks).map fun z => ((z.1, [z.2.1, z.2.2]) : Addr × List Str)) hob eis er (OwP.items_same two) (OwP.items_sort two (by decide)) (by rw [List.length_map, zl, sizeLine_eq]; omega) (fun b hb => ?_) fun out ol eo => ?_
  · have z := OwP.depth_strs b.2
    show X.A.units + 1 + 1 + (PyData.tuple (b.2.map PyData.str)).depth < cLine
    omega
  have eo2 := OwP.refs_each eo
  have es2 : (((as.zip ks).mergeSort fun a b => OwW.leP a.2 b.2).map fun z => ((z.1, [z.2.1, z.2.2]) : Addr × List Str)) = ((as.zip ks).map fun z => ((z.1, [z.2.1, z.2.2]) : Addr × List Str)).mergeSort (dataLe false OwP.enc) := PySem.W.sort_maps _ fun a _ b _ => (OwW.le_pr (p := (a.1, [a.2.1, a.2.2])) (q := (b.1, [b.2.1, b.2.2])) rfl rfl).symm
  have pz := List.mergeSort_perm (as.zip ks) fun a b => OwW.leP a.2 b.2
  have psort : ((as.zip ks).mergeSort fun a b => OwW.leP a.2 b.2).Pairwise (fun a b => OwW.leP a.2 b.2 = true) := PySem.W.sort_pairwise (le := fun a b : Addr × Str × Str => OwW.leP a.2 b.2) ⟨fun a b c h g => OwW.leP_tr h g, fun a b => Bool.or_eq_true_iff.mp (OwW.leP_total a.2 b.2)⟩ _
  rw [← es2, List.map_map] at eo2
  generalize ((as.zip ks).mergeSort fun a b => OwW.leP a.2 b.2) = zs at eo2 pz psort
  have hout : out = zs.map fun z => Value.ref z.1 := eo2
  show EP X pins σ Q (.ref h'.objs.size) { s with heap := sortedHeap h2 h'.objs.size (as.map Value.ref) out.toArray, toks := tk }
  have kF : ∀ b o, b ≠ h'.objs.size → h2.get? b = some o → (sortedHeap h2 h'.objs.size (as.map Value.ref) out.toArray).get? b = some o := fun b o hb e => (PyProof.Rows.sortedHeap_old hb (Heap.lt_size e)).trans e
  obtain ⟨eF, heF⟩ := PyProof.Rows.sortedHeap_at (vs := as.map Value.ref) (out := out.toArray) hob
  have zsl : zs.length = ks.length := by rw [pz.length_eq, zl]
  have hlen : (zs.map fun z => V.ref z.1).length ≤ sizeLine := by
    rw [List.length_map, sizeLine_eq]
    omega
  have rv : Vals (zs.map fun z => V.ref z.1) out := by
    rw [hout]
    exact vals_maps (fun z : Addr × Str × Str => V.ref z.1) (fun z => Value.ref z.1) zs fun _ _ => rfl
  have hn0 : H h'.objs.size = none := I3.hok.fresh (Nat.le_refl _)
  have I2 : Inv X pins σ (upd H h'.objs.size (.lst (zs.map fun z => V.ref z.1))) { s with heap := sortedHeap h2 h'.objs.size (as.map Value.ref) out.toArray, toks := tk } :=
    I3.laid (t' := tk) (o := .lst (zs.map fun z => V.ref z.1)) (fun b o e => kF b o (ne0 _ _ e) (ka _ _ e)) (Nat.le_refl _) ⟨hlen, out, eF, rv, heF⟩
  have fresh : ∀ b ∈ as, H b = none := fun b hb => I.hok.fresh (Nat.le_of_lt (hG.above b hb))
  obtain ⟨H2, I5, g, qt⟩ := takeT (P := fun b vs => ∃ (j : Nat) (e : Str × Str), as[j]? = some b ∧ ks[j]? = some e ∧ vs = [V.str e.1, V.str e.2]) I as _ I2 nd fun b hb => by
    obtain ⟨j, hj⟩ := List.mem_iff_getElem?.mp hb
    obtain ⟨e, t, u, he, hg⟩ := pr j b hj
    refine ⟨Nat.le_of_lt (hG.above b hb), ?_, [V.str e.1, V.str e.2], ⟨j, e, hj, he, rfl⟩, fun H3 => ⟨(by rw [sizeLine_eq]; show 2 ≤ 16777216; omega), [Value.str e.1 t, Value.str e.2 u], .cons ⟨t, rfl⟩ (.cons ⟨u, rfl⟩ .nil), ⟨_, kF _ _ (ne0 _ _ hg) (ka _ _ hg), rfl, 0, rfl⟩⟩⟩
    rw [upd_ne (ne0 _ _ hg)]
    exact fresh b hb
  have gr : ∀ b o, H b = some o → H2 b = some o := fun b o e => g b o (by rw [upd_ne (ne_of_none e hn0)]; exact e)
  refine ⟨.ref h'.objs.size, H2, I5, rfl, q H2 h'.objs.size zs gr (g _ _ upd_same) (fun z hz' => ?_) ?_ (List.pairwise_map.mpr psort)⟩
  · obtain ⟨i, i1, i2⟩ := idx z (pz.mem_iff.mp hz')
    obtain ⟨vs', ⟨j, e, j1, j2, ev⟩, hH⟩ := qt z.1 (List.mem_of_getElem? i1)
    have eij : i = j := (List.getElem?_inj (List.getElem?_eq_some_iff.mp i1).1 nd).mp (i1.trans j1.symm)
    subst eij
    have ee : e = z.2 := Option.some.inj (j2.symm.trans i2)
    rw [ev, ee] at hH
    exact hH
  · have e := pz.map (·.2)
    rw [zip_snd as ks lak] at e
    exact e
end
end OwSI


namespace OwW
open PySem PyProof.Rows L2 L2H OwX Rd Evl OwAn
abbrev sLHands : Stmt := top 58
abbrev NLh : List Str := ["_law_plain_here", "_law_tree_here", "_law_home", "_law_found", "_law_edge", "_law_turn", "_law_later", "_law_place", "_law_a", "_law_b", "_law_other"]
/-- a joining tree of a plain web at p -/
structure PlTree (H : Hp) (d p : Addr) (ks : List Str) (ys zs : TL) : Prop where
  pl : PlainAt H d ks ys
  ok : WebOk ks (ys.map (·.2))
  at_ : H p = some (.tup (rf zs))
  ta : TA H zs
  tr : TrOk ks (ys.map (·.2)) (zs.map (·.2))
theorem PlTree.ex {H H' : Hp} {d p : Addr} {ks : List Str} {ys zs : TL} (t : PlTree H d p ks ys zs) (e : Ex H H') : PlTree H' d p ks ys zs := ⟨t.pl.ex e, t.ok, e _ _ t.at_, t.ta.ex e, t.tr⟩
def spLHands : Sp := fun vs H Q _ => ∃ (d p : Addr) (home : Str) (ks : List Str) (ys zs : TL), vs = [.ref d, .ref p, .str home] ∧ PlTree H d p ks ys zs ∧ home ∈ ks ∧
  ∀ q H' hp rk, Ex H H' → OwG.Hands ks (zs.map (·.2)) home hp rk → H' q = some (.dK (hdD2 (notHome home ks) hp)) → Q (.ref q) H'
/-- the found ones and, at L, the later ones -/
structure LS (H0 : Hp) (D L : Addr) (ks : List Str) (tr : List (Str × Str)) (home : Str) (vs vs2 later : List Str) (hp : Str → Str) (rk : Str → Nat) (H : Hp) : Prop where
  ex : Ex H0 H
  d1 : H D = some (.dK (hdD2 vs2 hp))
  d2 : H L = some (.lst (later.map V.str))
  hi : OwG.HI ks tr home vs2 hp rk
  sub : ∀ v ∈ home :: vs, v ∈ home :: vs2
  lat : ∀ v ∈ later, v ∈ home :: vs2
  cnt : vs.length + later.length = vs2.length
theorem merge_keys : ∀ (kvs done : List (Key × V)), (∀ p ∈ kvs, ∀ q ∈ done, q.1 ≠ p.1) → (kvs.map (·.1)).Nodup → kvs.foldl (fun acc kv => putK acc kv.1 kv.2) done = done ++ kvs
  | [], done, _, _ => (List.append_nil done).symm
  | p :: kvs, done, hk, nd => by
    rw [List.map_cons, List.nodup_cons] at nd
    have z : putK done p.1 p.2 = done ++ [p] := by
      unfold putK
      rw [if_neg]
      intro h
      obtain ⟨q, hq, e⟩ := List.any_eq_true.mp h
      exact hk p List.mem_cons_self q hq (of_decide_eq_true e)
    rw [List.foldl_cons, z, merge_keys kvs (done ++ [p]) (fun r hr q hq => ?_) nd.2, List.append_assoc]
    · rfl
    · rcases List.mem_append.mp hq with h | h
      · exact hk r (List.mem_cons_of_mem _ hr) q h
      · rw [List.mem_singleton.mp h]
        exact fun e => nd.1 (e ▸ List.mem_map.mpr ⟨r, hr, rfl⟩)
theorem keys_nodup {ls : List Str} (nd : ls.Nodup) : (ls.map fun k => (Sum.inr k : Key)).Nodup := by
  refine List.Pairwise.map _ (fun a b h e => h (Sum.inr.inj e)) nd
theorem merge_nil {kvs : List (Key × V)} (nd : (kvs.map (·.1)).Nodup) : mergeK [] kvs = kvs := merge_keys kvs [] (fun _ _ _ h => nomatch h) nd
/-- sorted pairs of names: the keys in their order, each with its value -/
theorem pairs_are {home : Str} {ks vs : List Str} {hp : Str → Str} (asc : ks.Pairwise (fun a b => OwL2.lt a b = true)) (nd : vs.Nodup) (mem : ∀ k, k ∈ vs ↔ k ∈ ks ∧ k ≠ home) {l : List (Str × Str)} (pm : l.Perm (vs.map fun v => (v, hp v))) (so : l.Pairwise (fun a b => leP a b = true)) : l = (notHome home ks).map fun k => (k, hp k) := by
  have pk : (l.map (·.1)).Perm vs := by
    have z := pm.map (·.1)
    rw [List.map_map] at z
    have e : vs.map ((fun x : Str × Str => x.1) ∘ fun v => (v, hp v)) = vs := by
      conv => rhs; rw [← List.map_id vs]
      rfl
    rw [e] at z
    exact z
  have ndk : (l.map (·.1)).Nodup := pk.symm.nodup nd
  have ask : (l.map (·.1)).Pairwise (fun a b => OwL2.lt a b = true) := by
    refine List.pairwise_map.mpr (so.imp₂ (fun a b h n => ?_) (List.pairwise_map.mp ndk))
    have hl : OwL2.ltP b a = false := by
      unfold leP at h
      cases e : OwL2.ltP b a with
      | false => rfl
      | true => rw [e] at h; exact nomatch h
    unfold OwL2.ltP at hl
    have n' : ¬ b.1 = a.1 := fun e => n e.symm
    rw [if_neg n'] at hl
    exact lt_tot hl n'
  have ek : l.map (·.1) = notHome home ks := asc_eq ask (asc.sublist List.filter_sublist) fun k => by
    unfold notHome
    rw [pk.mem_iff, mem, List.mem_filter]
    simp
  rw [← ek, List.map_map]
  conv => lhs; rw [← List.map_id l]
  refine List.map_congr_left fun t ht => ?_
  obtain ⟨v, _, rfl⟩ := List.mem_map.mp (pm.mem_iff.mp ht)
  rfl
theorem paired_of {K : PySem.W.Frag} {H : Hp} : ∀ {ts : List (Addr × Str × Str)}, (∀ z ∈ ts, H z.1 = some (.tup [V.str z.2.1, V.str z.2.2])) → Paired (fun (p : Addr) (kv : Key × V) => SqT K H p [kV kv.1, kv.2]) (ts.map (·.1)) (ts.map fun z => (Sum.inr z.2.1, V.str z.2.2))
  | [], _ => .nil
  | z :: ts, h => .cons (SqT.of (h z List.mem_cons_self)) (paired_of fun y hy => h y (List.mem_cons_of_mem _ hy))
section
variable {P : Program} {w : World} {K : PySem.W.Frag} {mg : Str → Option Value} {base : Heap}
theorem scLHands : FnScope NLh ["_law_plain_here", "_law_tree_here", "_law_home"] (defScope sLHands) := ⟨rfl, rfl, rfl, by decide +kernel, rfl, by decide +kernel, by decide +kernel⟩
theorem ok_lhands {f : Addr} {fd : FuncData} (F : Fun K "_law_hands" "_law_hands" sLHands f fd) (T : BltM mg) (gDi : mg "dict" = none) : FnOk P w K mg base CX0 1 f fd ["_law_plain_here", "_law_tree_here", "_law_home"] spLHands := by
  have nd := scLHands.nd
  refine F.ok scLHands (fun vs H Q E h => ?_) (fun cdv A outer s H vs Q E hr h => ⟨_, (pss_cons (ps_par (i := 3) (j := 4) rfl nd rfl rfl (by decide) rfl rfl (pa_cons pe_dnewK (pa_cons (pe_lstN (pa_cons (pv 2) pa_nil)) pa_nil)) rfl)
    (pss_cons (ps_for PassesOwn.never rfl (pi_range1 rfl T.range (pa_cons (pe_callB call_len_seq (by rfl) T.len (by decide +kernel) (pa_cons (pe_dget (units1 hr) (pv 0) pe_str (fun _ _ => rfl)) pa_nil)) pa_nil)) (pg_name (i := 5) nd rfl (Or.inl rfl)) (pss_cons (ps_set (i := 6) nd rfl (Or.inl rfl) (pe_lstN pa_nil))
    (pss_cons (ps_for PassesOwn.never rfl (pi_list (pv 4)) (pg_name (i := 7) nd rfl (Or.inl rfl)) (pss_one (ps_for PassesOwn.never rfl (pi_tup (pv 1)) (pg_tup rfl (pgs_cons (pg_name (i := 8) nd rfl (Or.inl rfl)) (pgs_cons (pg_name (i := 9) nd rfl (Or.inl rfl)) pgs_nil))) (pss_cons (ps_set (i := 10) nd rfl (Or.inl rfl) (pe_ifExp (pt_cmpR op_eq (pv 8) (pv 7) (nomark _)) (pv 9) (pv 8)))
    (pss_one (ps_if ((pw_and (pt_cmpR op_in_seq (pv 7) (pe_tup (pa_cons (pv 8) (pa_cons (pv 9) pa_nil))) (by with_unfolding_all rfl)) (pw_and (pt_cmpR op_ne (pv 10) (pv 2) (nomark _)) (pw_and1 (pt_cmp (pc_dnotin (units1 hr) (pv 10) (pv 3))))))).pt (pss_cons (ps_dput (units1 hr) (pv 3) (pv 10) (pv 7) rfl)
    (pss_one (ps_expr (pe_bm PySem.F.plainAttrs_list PySem.F.slot_list_append PySem.F.type_list_append mt_append (pv 6) (pa_cons (pv 10) pa_nil))))) pss_nil))))))
    (pss_one (ps_set (i := 4) nd rfl (Or.inl rfl) (pe_callTy call_list_of (by rfl) T.list (by decide +kernel) (pa_cons (pv 6) pa_nil)))))))
    (pss_one (ps_ret (pe_callTy (call_dictP rfl) (by rfl) gDi (by decide +kernel) (pa_cons (pe_callB (OwSI.cr_sortIS rfl hr.units) (by rfl) T.sorted (by decide +kernel) (pa_cons (pe_bm0 PySem.F.plainAttrs_dict PySem.F.slot_dict_items PySem.F.type_dict_items OwSI.mt_itemsK (pv 3)) pa_nil)) pa_nil)))))), ?_⟩)
  · obtain ⟨d, p, home, ks, ys, zs, rfl, _⟩ := h
    rfl
  · obtain ⟨d, p, home, ks, ys, zs, rfl, t, hk, k⟩ := h
    have ok := t.ok
    have n9 := ok.nine
    have TO := t.tr.tree ok
    have few : zs.length ≤ 8 := by
      have z := t.tr.len
      rw [List.length_map] at z
      omega
    obtain ⟨⟨kp, tp, h1, h2, h3⟩, tay⟩ := t.pl
    rw [show L2.start NLh [V.ref d, V.ref p, V.str home] = [some (.ref d), some (.ref p), some (.str home), none, none, none, none, none, none, none, none] from rfl]
    walk_at "rd"
    refine Rd.par2 ?_
    walk_at "rd"
    refine fun D hD => ?_
    have eD : Ex H (upd H D (.dK [])) := Ex.new hD
    have D1 : (upd H D (.dK [])) D = some (.dK (hdD2 [] (fun _ => ""))) := upd_same
    generalize upd H D (.dK []) = H1 at eD D1 ⊢
    walk_at "rd"
    refine ⟨small64 (n := 1) (by decide), fun E0' hE _ => ?_⟩
    have eE : Ex H1 (upd H1 E0' (.lst [V.str home])) := Ex.new hE
    have E1 : (upd H1 E0' (.lst [V.str home])) E0' = some (.lst ([home].map V.str)) := upd_same
    have D2 := eE _ _ D1
    have e2 := eD.trans eE
    generalize upd H1 E0' (.lst [V.str home]) = H2 at eE E1 D2 e2 ⊢
    clear eE hE
    walk_at "rd"
    refine ⟨_, _, rfl, ?_⟩
    dsimp only [List.set_cons_succ, List.set_cons_zero]
    walk_at "rd"
    with_reducible refine Rd.for' (Rd.irng' ?_)
    unfold tDGet
    walk_at "rd"
    refine ⟨d, _, rfl, (pl_get (e2 _ _ h1)).1, ?_⟩
    walk_at "rd"
    refine ⟨kp, _, rfl, Or.inl (SqL.of (e2 _ _ h2)), ?_⟩
    rw [List.length_map]
    walk_at "rd"
    refine ⟨_, rfl, by omega, by omega, ?_⟩
    have eT : Int.toNat ((ks.length : Nat) : Int) = ks.length := rfl
    have nED : E0' ≠ D := fun e => by
      rw [e, D2] at E1
      exact nomatch E1
    refine for_it walk_range (fun i σ H' => ∃ (Ea : Addr) (vs es : List Str) (hp : Str → Str) (rk : Str → Nat) (x5 x6 x7 x8 x9 x10 : Option V), σ = [some (.ref d), some (.ref p), some (.str home), some (.ref D), some (.ref Ea), x5, x6, x7, x8, x9, x10] ∧ Ex H H' ∧ H' D = some (.dK (hdD2 vs hp)) ∧ H' Ea = some (.lst (es.map V.str)) ∧ Ea ≠ D ∧ OwG.HI ks (zs.map (·.2)) home vs hp rk ∧ (∀ v ∈ es, v ∈ home :: vs) ∧ (∀ v ∈ home :: vs, v ∈ es ∨ ∀ b, OwG.Adj (zs.map (·.2)) v b → b ∈ home :: vs) ∧ (es = [] ∨ i ≤ vs.length) ∧ es.length ≤ vs.length + 1)
      ⟨E0', [], [home], _, _, _, _, _, _, _, _, rfl, e2, D2, E1, nED, OwG.HI.start _ _ _ _, fun _ h => h, fun v hv => .inl hv, .inr (Nat.le_refl _), Nat.le_refl _⟩ (fun _ _ _ _ _ => trivial) (fun i z σ Ha Hb hi hP hY => ?_) (fun σ Ha hP => ?_)
    · obtain ⟨Ea, vs, es, hp, rk, x5, x6, x7, x8, x9, x10, rfl, ea, dA, eA, nEa, HIa, es1, cl, grow, el⟩ := hP
      obtain ⟨rfl, rfl⟩ := hY
      have vl := HIa.len hk
      walk_at "rd"
      refine ⟨small64 (n := 0) (by decide), fun L hL _ => ?_⟩
      have hL0 : H L = none := ex_none ea hL
      have nLD : L ≠ D := fun e => by
        rw [e, dA] at hL
        exact nomatch hL
      have nLE : Ea ≠ L := fun e => by
        rw [e] at eA
        rw [eA] at hL
        exact nomatch hL
      have eA1 := (Ex.new (o := .lst []) hL) _ _ eA
      have S0 : LS H D L ks (zs.map (·.2)) home vs vs [] hp rk (upd Hb L (.lst [])) := ⟨ea.trans (Ex.new hL), (Ex.new hL) _ _ dA, upd_same, HIa, fun _ h => h, (fun _ h => nomatch h), rfl⟩
      generalize upd Hb L (.lst []) = H3 at S0 eA1 ⊢
      walk_at "rd"
      dsimp only [List.set_cons_succ, List.set_cons_zero]
      with_reducible refine Rd.for' ?_
      refine ⟨_, rfl, Ea, rfl, ⟨_, SqL.of eA1⟩, ?_⟩
      refine for_it (walk_list (xs := es.map V.str)) (fun j σ H' => ∃ (vs2 later : List Str) (hp2 : Str → Str) (rk2 : Str → Nat) (x7 x8 x9 x10 : Option V), σ = [some (.ref d), some (.ref p), some (.str home), some (.ref D), some (.ref Ea), some (.int (0 + (i : Nat))), some (.ref L), x7, x8, x9, x10] ∧ LS H D L ks (zs.map (·.2)) home vs vs2 later hp2 rk2 H' ∧ H' Ea = some (.lst (es.map V.str)) ∧ (later = [] ∨ es ≠ []) ∧ (∀ v ∈ home :: vs2, v ∈ later ∨ (∃ m, j ≤ m ∧ es[m]? = some v) ∨ ∀ b, OwG.Adj (zs.map (·.2)) v b → b ∈ home :: vs2))
        ⟨vs, [], hp, rk, _, _, _, _, rfl, S0, eA1, .inl rfl, fun v hv => .inr ((cl v hv).imp (fun z => by
          obtain ⟨m, hm⟩ := List.mem_iff_getElem?.mp z
          exact ⟨m, Nat.zero_le _, hm⟩) id)⟩ (fun j σ Hc _ hP => ?_) (fun j z σ Hc Hd hj hP hY => ?_) (fun σ Hc hP => ?_)
      · obtain ⟨_, _, _, _, _, _, _, _, rfl, _, e6, _⟩ := hP
        exact SqL.of e6
      · obtain ⟨vs2, later, hp2, rk2, x7, x8, x9, x10, rfl, S, eC, lne, cl2⟩ := hP
        obtain ⟨rfl, hz⟩ := hY
        rw [List.getElem?_map] at hz
        cases hpl : es[j]? with
        | none => rw [hpl] at hz; exact nomatch hz
        | some pl =>
          rw [hpl] at hz
          cases hz
          have esn : es ≠ [] := fun e => by rw [e] at hpl; exact nomatch hpl
          have plin : pl ∈ home :: vs := es1 pl (List.mem_of_getElem? hpl)
          walk_at "rd"
          dsimp only [List.set_cons_succ, List.set_cons_zero]
          with_reducible refine Rd.for' ?_
          refine ⟨_, rfl, p, rfl, ⟨_, SqT.of (S.ex _ _ t.at_)⟩, ?_⟩
          refine for_it (walk_tup (xs := rf zs)) (fun n σ H' => ∃ (vs3 later3 : List Str) (hp3 : Str → Str) (rk3 : Str → Nat) (x8 x9 x10 : Option V), σ = [some (.ref d), some (.ref p), some (.str home), some (.ref D), some (.ref Ea), some (.int (0 + (i : Nat))), some (.ref L), some (.str pl), x8, x9, x10] ∧ LS H D L ks (zs.map (·.2)) home vs vs3 later3 hp3 rk3 H' ∧ H' Ea = some (.lst (es.map V.str)) ∧ (∀ v ∈ home :: vs3, v ∈ later3 ∨ (∃ m, j + 1 ≤ m ∧ es[m]? = some v) ∨ v = pl ∨ ∀ b, OwG.Adj (zs.map (·.2)) v b → b ∈ home :: vs3) ∧ (∀ (m : Nat) (u : Str × Str), m < n → (zs.map (·.2))[m]? = some u → (u.1 = pl → u.2 ∈ home :: vs3) ∧ (u.2 = pl → u.1 ∈ home :: vs3)))
            ⟨vs2, later, hp2, rk2, _, _, _, rfl, S, eC, fun v hv => ?_, fun _ _ h => absurd h (Nat.not_lt_zero _)⟩ (fun n σ He _ hP => ?_) (fun n z σ He Hf hn hP hY => ?_) (fun σ He hP => ?_)
          · rcases cl2 v hv with z | ⟨m, hm, z⟩ | z
            · exact .inl z
            · rcases Nat.lt_or_eq_of_le hm with y | y
              · exact .inr (.inl ⟨m, y, z⟩)
              · subst y
                rw [hpl] at z
                cases z
                exact .inr (.inr (.inl rfl))
            · exact .inr (.inr (.inr z))
          · obtain ⟨_, _, _, _, _, _, _, rfl, S3, _⟩ := hP
            exact SqT.of (S3.ex _ _ t.at_)
          · obtain ⟨vs3, later3, hp3, rk3, x8, x9, x10, rfl, S3, eE3, cl3, dn3⟩ := hP
            obtain ⟨rfl, hz⟩ := hY
            rw [List.getElem?_map] at hz
            cases hu : zs[n]? with
            | none => rw [hu] at hz; exact nomatch hz
            | some u =>
              rw [hu] at hz
              cases hz
              have um : u ∈ zs := List.mem_of_getElem? hu
              have hr0 : (zs.map (·.2))[n]? = some u.2 := by rw [List.getElem?_map, hu]; rfl
              have ut := List.mem_of_getElem? hr0
              have ends := TO.sub u.2 ut
              have vl3 := S3.hi.len hk
              have cnt3 := S3.cnt
              have plin3 := S3.sub pl plin
              refine ⟨u.1, [.str u.2.1, .str u.2.2], rfl, SqT.of (t.ta.ex S3.ex u um), rfl, .str u.2.1, [.str u.2.2], rfl, ?_⟩
              walk_at "rd"
              refine ⟨.str u.2.2, [], rfl, ?_⟩
              walk_at "rd"
              refine ⟨rfl, ?_⟩
              dsimp only [List.set_cons_succ, List.set_cons_zero]
              walk_at "rd"
              refine Rd.eq rfl ⟨_, rfl, ?_⟩
              have dn' : ∀ vs' : List Str, (∀ v ∈ home :: vs3, v ∈ home :: vs') → (u.2.1 = pl → u.2.2 ∈ home :: vs') ∧ (u.2.2 = pl → u.2.1 ∈ home :: vs') → ∀ (m : Nat) (e : Str × Str), m < n + 1 → (zs.map (·.2))[m]? = some e → (e.1 = pl → e.2 ∈ home :: vs') ∧ (e.2 = pl → e.1 ∈ home :: vs') := fun vs' up h m e hm he => by
                rcases Nat.lt_or_eq_of_le (Nat.le_of_lt_succ hm) with z | z
                · exact ⟨fun q => up _ ((dn3 m e z he).1 q), fun q => up _ ((dn3 m e z he).2 q)⟩
                · subst z
                  rw [hr0] at he
                  cases he
                  exact h
              have skip : ∀ (H8 : Hp) (x : Option V), Ex Hf H8 → (u.2.1 = pl → u.2.2 ∈ home :: vs3) ∧ (u.2.2 = pl → u.2.1 ∈ home :: vs3) → ∃ (vs4 later4 : List Str) (hp4 : Str → Str) (rk4 : Str → Nat) (y8 y9 y10 : Option V), [some (V.ref d), some (.ref p), some (.str home), some (.ref D), some (.ref Ea), some (.int (0 + (i : Nat))), some (.ref L), some (.str pl), some (.str u.2.1), some (.str u.2.2), x] = [some (.ref d), some (.ref p), some (.str home), some (.ref D), some (.ref Ea), some (.int (0 + (i : Nat))), some (.ref L), some (.str pl), y8, y9, y10] ∧ LS H D L ks (zs.map (·.2)) home vs vs4 later4 hp4 rk4 H8 ∧ H8 Ea = some (.lst (es.map V.str)) ∧ (∀ v ∈ home :: vs4, v ∈ later4 ∨ (∃ m, j + 1 ≤ m ∧ es[m]? = some v) ∨ v = pl ∨ ∀ b, OwG.Adj (zs.map (·.2)) v b → b ∈ home :: vs4) ∧ (∀ (m : Nat) (e : Str × Str), m < n + 1 → (zs.map (·.2))[m]? = some e → (e.1 = pl → e.2 ∈ home :: vs4) ∧ (e.2 = pl → e.1 ∈ home :: vs4)) := fun H8 x e8 h =>
                ⟨vs3, later3, hp3, rk3, _, _, _, rfl, ⟨S3.ex.trans e8, e8 _ _ S3.d1, e8 _ _ S3.d2, S3.hi, S3.sub, S3.lat, S3.cnt⟩, e8 _ _ eE3, cl3, dn' vs3 (fun _ h => h) h⟩
              have eh : inV (.str pl) [.str u.2.1, .str u.2.2] = hits pl u.2 := by
                show ((u.2.1 == pl) || ((u.2.2 == pl) || false)) = (decide (u.2.1 = pl) || decide (u.2.2 = pl))
                rw [Bool.or_false]
                by_cases c : u.2.1 = pl <;> by_cases d : u.2.2 = pl <;> simp [c, d]
              by_cases c : u.2.1 = pl
              · have e0 : decide (V.str u.2.1 = V.str pl) = true := by simp [c]
                rw [e0, if_pos rfl]
                have fin : ∀ vs' : List Str, (∀ v ∈ home :: vs3, v ∈ home :: vs') → u.2.2 ∈ home :: vs' → (u.2.1 = pl → u.2.2 ∈ home :: vs') ∧ (u.2.2 = pl → u.2.1 ∈ home :: vs') := fun vs' up h => ⟨fun _ => h, fun _ => by rw [c]; exact up pl plin3⟩
                walk_at "rd"
                dsimp only [List.set_cons_succ, List.set_cons_zero]
                walk_at "rd"
                refine ⟨small64 (n := 2) (by decide), fun tq htq => ⟨tq, [.str u.2.1, .str u.2.2], rfl, Or.inr (SqT.of upd_same), rfl, rfl, ?_⟩⟩
                rw [if_neg (by decide), eh]
                have e8 : Ex Hf (upd Hf tq (.tup [V.str u.2.1, V.str u.2.2])) := Ex.new htq
                generalize upd Hf tq (.tup [V.str u.2.1, V.str u.2.2]) = H8 at e8 ⊢
                refine ⟨_, rfl, ?_⟩
                have hT : hits pl u.2 = true := by simp [hits, c]
                rw [hT]
                refine Rd.iteT rfl ?_
                have d8 := e8 _ _ S3.d1
                have l8 := e8 _ _ S3.d2
                walk_at "rd"
                refine Rd.ne rfl ⟨_, rfl, ?_⟩
                by_cases c2 : u.2.2 = home
                · have e0 : (!decide (V.str u.2.2 = V.str home)) = false := by rw [c2]; simp
                  rw [e0]
                  refine Rd.iteF (by decide) (Rd.iteF (by decide) ?_)
                  exact skip H8 _ e8 (fin vs3 (fun _ h => h) (by rw [c2]; exact List.mem_cons_self))
                · have e0 : (!decide (V.str u.2.2 = V.str home)) = true := by simp [c2]
                  rw [e0]
                  refine Rd.iteT rfl ?_
                  walk_at "rd"
                  refine ⟨_, rfl, ?_⟩
                  walk_at "rd"
                  refine ⟨D, _, rfl, DGet.k (k := Sum.inr u.2.2) d8, ?_⟩
                  rw [hd_in]
                  by_cases c3 : u.2.2 ∈ vs3
                  · rw [decide_eq_true c3]
                    refine ⟨_, rfl, ?_⟩
                    rw [if_neg (by decide)]
                    exact skip H8 _ e8 (fin vs3 (fun _ h => h) (List.mem_cons_of_mem _ c3))
                  · rw [decide_eq_false c3]
                    refine ⟨_, rfl, ?_⟩
                    rw [if_pos (by decide)]
                    walk_at "rd"
                    unfold sDPut
                    walk_at "rd"
                    refine ⟨D, _, rfl, DPut.k (k := Sum.inr u.2.2) d8 ?_, ?_⟩
                    · unfold hdD2
                      rw [List.length_map]
                      exact sz_lt (by omega)
                    rw [hd_put c3]
                    have g1 : (upd H8 D (.dK (hdD2 (vs3 ++ [u.2.2]) (OwG.put hp3 u.2.2 pl)))) D = some (.dK (hdD2 (vs3 ++ [u.2.2]) (OwG.put hp3 u.2.2 pl))) := upd_same
                    have g2 : (upd H8 D (.dK (hdD2 (vs3 ++ [u.2.2]) (OwG.put hp3 u.2.2 pl)))) L = some (.lst (later3.map V.str)) := (upd_ne nLD).trans l8
                    have gq : (upd H8 D (.dK (hdD2 (vs3 ++ [u.2.2]) (OwG.put hp3 u.2.2 pl)))) Ea = some (.lst (es.map V.str)) := (upd_ne nEa).trans (e8 _ _ eE3)
                    have ge : Ex H (upd H8 D (.dK (hdD2 (vs3 ++ [u.2.2]) (OwG.put hp3 u.2.2 pl)))) := (S3.ex.trans e8).mut hD
                    generalize upd H8 D (.dK (hdD2 (vs3 ++ [u.2.2]) (OwG.put hp3 u.2.2 pl))) = H9 at g1 g2 gq ge ⊢
                    walk_at "rd"
                    refine ⟨_, rfl, Or.inl ⟨rfl, _, SqL.of g2⟩, ?_⟩
                    walk_at "rd"
                    refine ⟨L, later3.map V.str, .str u.2.2, rfl, rfl, g2, ?_, ?_⟩
                    · rw [List.length_map]
                      exact sz_lt (by omega)
                    have hi3 := S3.hi.add plin3 c3 c2 ends.2 (.inl (by rw [← c]; exact ut))
                    have up : ∀ v, v ∈ home :: vs3 → v ∈ home :: (vs3 ++ [u.2.2]) := fun v hv => (List.mem_cons.mp hv).elim (fun e => by rw [e]; exact List.mem_cons_self) fun y => List.mem_cons_of_mem _ (List.mem_append_left _ y)
                    have oin : u.2.2 ∈ home :: (vs3 ++ [u.2.2]) := List.mem_cons_of_mem _ (List.mem_append_right _ List.mem_cons_self)
                    refine ⟨vs3 ++ [u.2.2], later3 ++ [u.2.2], _, _, _, _, _, rfl, ⟨ge.mut hL0, (upd_ne (Ne.symm nLD)).trans g1, by rw [List.map_append]; exact upd_same, hi3, fun v hv => up v (S3.sub v hv), fun v hv => ?_, ?_⟩, (upd_ne nLE).trans gq, fun v hv => ?_, dn' _ up (fin _ up oin)⟩
                    · rcases List.mem_append.mp hv with z | z
                      · exact up v (S3.lat v z)
                      · rw [List.mem_singleton.mp z]; exact oin
                    · rw [List.length_append, List.length_append]
                      show vs.length + (later3.length + 1) = vs3.length + 1
                      omega
                    · have old : ∀ v, v ∈ home :: vs3 → v ∈ later3 ++ [u.2.2] ∨ (∃ m, j + 1 ≤ m ∧ es[m]? = some v) ∨ v = pl ∨ ∀ b, OwG.Adj (zs.map (·.2)) v b → b ∈ home :: (vs3 ++ [u.2.2]) := fun v hv => by
                        rcases cl3 v hv with z | z | z | z
                        · exact .inl (List.mem_append_left _ z)
                        · exact .inr (.inl z)
                        · exact .inr (.inr (.inl z))
                        · exact .inr (.inr (.inr fun b hb => up _ (z b hb)))
                      rcases List.mem_cons.mp hv with z | z
                      · rw [z]
                        exact old home List.mem_cons_self
                      · rcases List.mem_append.mp z with z | z
                        · exact old v (List.mem_cons_of_mem _ z)
                        · exact .inl (List.mem_append_right _ z)
              · have e0 : decide (V.str u.2.1 = V.str pl) = false := by simp [c]
                rw [e0, if_neg (by decide)]
                walk_at "rd"
                dsimp only [List.set_cons_succ, List.set_cons_zero]
                walk_at "rd"
                refine ⟨small64 (n := 2) (by decide), fun tq htq => ⟨tq, [.str u.2.1, .str u.2.2], rfl, Or.inr (SqT.of upd_same), rfl, rfl, ?_⟩⟩
                rw [if_neg (by decide), eh]
                have e8 : Ex Hf (upd Hf tq (.tup [V.str u.2.1, V.str u.2.2])) := Ex.new htq
                generalize upd Hf tq (.tup [V.str u.2.1, V.str u.2.2]) = H8 at e8 ⊢
                refine ⟨_, rfl, ?_⟩
                by_cases c' : u.2.2 = pl
                · have fin : ∀ vs' : List Str, (∀ v ∈ home :: vs3, v ∈ home :: vs') → u.2.1 ∈ home :: vs' → (u.2.1 = pl → u.2.2 ∈ home :: vs') ∧ (u.2.2 = pl → u.2.1 ∈ home :: vs') := fun vs' up h => ⟨fun z => absurd z c, fun _ => h⟩
                  have hT : hits pl u.2 = true := by simp [hits, c']
                  rw [hT]
                  refine Rd.iteT rfl ?_
                  have d8 := e8 _ _ S3.d1
                  have l8 := e8 _ _ S3.d2
                  walk_at "rd"
                  refine Rd.ne rfl ⟨_, rfl, ?_⟩
                  by_cases c2 : u.2.1 = home
                  · have e0 : (!decide (V.str u.2.1 = V.str home)) = false := by rw [c2]; simp
                    rw [e0]
                    refine Rd.iteF (by decide) (Rd.iteF (by decide) ?_)
                    exact skip H8 _ e8 (fin vs3 (fun _ h => h) (by rw [c2]; exact List.mem_cons_self))
                  · have e0 : (!decide (V.str u.2.1 = V.str home)) = true := by simp [c2]
                    rw [e0]
                    refine Rd.iteT rfl ?_
                    walk_at "rd"
                    refine ⟨_, rfl, ?_⟩
                    walk_at "rd"
                    refine ⟨D, _, rfl, DGet.k (k := Sum.inr u.2.1) d8, ?_⟩
                    rw [hd_in]
                    by_cases c3 : u.2.1 ∈ vs3
                    · rw [decide_eq_true c3]
                      refine ⟨_, rfl, ?_⟩
                      rw [if_neg (by decide)]
                      exact skip H8 _ e8 (fin vs3 (fun _ h => h) (List.mem_cons_of_mem _ c3))
                    · rw [decide_eq_false c3]
                      refine ⟨_, rfl, ?_⟩
                      rw [if_pos (by decide)]
                      walk_at "rd"
                      unfold sDPut
                      walk_at "rd"
                      refine ⟨D, _, rfl, DPut.k (k := Sum.inr u.2.1) d8 ?_, ?_⟩
                      · unfold hdD2
                        rw [List.length_map]
                        exact sz_lt (by omega)
                      rw [hd_put c3]
                      have g1 : (upd H8 D (.dK (hdD2 (vs3 ++ [u.2.1]) (OwG.put hp3 u.2.1 pl)))) D = some (.dK (hdD2 (vs3 ++ [u.2.1]) (OwG.put hp3 u.2.1 pl))) := upd_same
                      have g2 : (upd H8 D (.dK (hdD2 (vs3 ++ [u.2.1]) (OwG.put hp3 u.2.1 pl)))) L = some (.lst (later3.map V.str)) := (upd_ne nLD).trans l8
                      have gq : (upd H8 D (.dK (hdD2 (vs3 ++ [u.2.1]) (OwG.put hp3 u.2.1 pl)))) Ea = some (.lst (es.map V.str)) := (upd_ne nEa).trans (e8 _ _ eE3)
                      have ge : Ex H (upd H8 D (.dK (hdD2 (vs3 ++ [u.2.1]) (OwG.put hp3 u.2.1 pl)))) := (S3.ex.trans e8).mut hD
                      generalize upd H8 D (.dK (hdD2 (vs3 ++ [u.2.1]) (OwG.put hp3 u.2.1 pl))) = H9 at g1 g2 gq ge ⊢
                      walk_at "rd"
                      refine ⟨_, rfl, Or.inl ⟨rfl, _, SqL.of g2⟩, ?_⟩
                      walk_at "rd"
                      refine ⟨L, later3.map V.str, .str u.2.1, rfl, rfl, g2, ?_, ?_⟩
                      · rw [List.length_map]
                        exact sz_lt (by omega)
                      have hi3 := S3.hi.add plin3 c3 c2 ends.1 (.inr (by rw [← c']; exact ut))
                      have up : ∀ v, v ∈ home :: vs3 → v ∈ home :: (vs3 ++ [u.2.1]) := fun v hv => (List.mem_cons.mp hv).elim (fun e => by rw [e]; exact List.mem_cons_self) fun y => List.mem_cons_of_mem _ (List.mem_append_left _ y)
                      have oin : u.2.1 ∈ home :: (vs3 ++ [u.2.1]) := List.mem_cons_of_mem _ (List.mem_append_right _ List.mem_cons_self)
                      refine ⟨vs3 ++ [u.2.1], later3 ++ [u.2.1], _, _, _, _, _, rfl, ⟨ge.mut hL0, (upd_ne (Ne.symm nLD)).trans g1, by rw [List.map_append]; exact upd_same, hi3, fun v hv => up v (S3.sub v hv), fun v hv => ?_, ?_⟩, (upd_ne nLE).trans gq, fun v hv => ?_, dn' _ up (fin _ up oin)⟩
                      · rcases List.mem_append.mp hv with z | z
                        · exact up v (S3.lat v z)
                        · rw [List.mem_singleton.mp z]; exact oin
                      · rw [List.length_append, List.length_append]
                        show vs.length + (later3.length + 1) = vs3.length + 1
                        omega
                      · have old : ∀ v, v ∈ home :: vs3 → v ∈ later3 ++ [u.2.1] ∨ (∃ m, j + 1 ≤ m ∧ es[m]? = some v) ∨ v = pl ∨ ∀ b, OwG.Adj (zs.map (·.2)) v b → b ∈ home :: (vs3 ++ [u.2.1]) := fun v hv => by
                          rcases cl3 v hv with z | z | z | z
                          · exact .inl (List.mem_append_left _ z)
                          · exact .inr (.inl z)
                          · exact .inr (.inr (.inl z))
                          · exact .inr (.inr (.inr fun b hb => up _ (z b hb)))
                        rcases List.mem_cons.mp hv with z | z
                        · rw [z]
                          exact old home List.mem_cons_self
                        · rcases List.mem_append.mp z with z | z
                          · exact old v (List.mem_cons_of_mem _ z)
                          · exact .inl (List.mem_append_right _ z)
                · have hF : hits pl u.2 = false := by simp [hits, c, c']
                  rw [hF]
                  refine Rd.iteF (by decide) (Rd.iteF (by decide) ?_)
                  exact skip H8 _ e8 ⟨fun z => absurd z c, fun z => absurd z c'⟩
          · obtain ⟨vs3, later3, hp3, rk3, x8, x9, x10, rfl, S3, eE3, cl3, dn3⟩ := hP
            rw [show (rf zs).length = (zs.map (·.2)).length by unfold rf; rw [List.length_map, List.length_map]] at dn3
            refine ⟨vs3, later3, hp3, rk3, _, _, _, _, rfl, S3, eE3, .inr esn, fun v hv => ?_⟩
            rcases cl3 v hv with z | z | z | z
            · exact .inl z
            · exact .inr (.inl z)
            · subst z
              refine .inr (.inr fun b hb => ?_)
              rcases hb with hb | hb
              · obtain ⟨m, hm, e⟩ := List.getElem_of_mem hb
                exact (dn3 m _ hm (by rw [List.getElem?_eq_getElem hm, e])).1 rfl
              · obtain ⟨m, hm, e⟩ := List.getElem_of_mem hb
                exact (dn3 m _ hm (by rw [List.getElem?_eq_getElem hm, e])).2 rfl
            · exact .inr (.inr z)
      · obtain ⟨vs2, later, hp2, rk2, x7, x8, x9, x10, rfl, S, eC, lne, cl2⟩ := hP
        have laL := S.cnt
        have v2l := S.hi.len hk
        walk_at "rd"
        refine ⟨L, _, rfl, .inl (SqL.of S.d2), fun E2' hE2 => ?_⟩
        have eN := Ex.new (o := .lst (later.map V.str)) hE2
        have dN := eN _ _ S.d1
        have nE2 : E2' ≠ D := fun e => by
          rw [e, S.d1] at hE2
          exact nomatch hE2
        show gName 4 _ _ (upd Hc E2' (.lst (later.map V.str))) _
        have lN : (upd Hc E2' (.lst (later.map V.str))) E2' = some (.lst (later.map V.str)) := upd_same
        generalize upd Hc E2' (.lst (later.map V.str)) = H9 at eN dN lN ⊢
        walk_at "rd"
        dsimp only [List.set_cons_succ, List.set_cons_zero]
        refine ⟨E2', vs2, later, hp2, rk2, _, _, _, _, _, _, rfl, S.ex.trans eN, dN, lN, nE2, S.hi, S.lat, fun v hv => ?_, ?_, by omega⟩
        · rcases cl2 v hv with z | ⟨m, hm, z⟩ | z
          · exact .inl z
          · rw [List.length_map] at hm
            rw [List.getElem?_eq_none hm] at z
            exact nomatch z
          · exact .inr z
        · cases later with
          | nil => exact .inl rfl
          | cons x xs =>
            have esn : es ≠ [] := lne.resolve_left fun z => nomatch z
            have g := grow.resolve_left esn
            rw [List.length_cons] at laL
            exact .inr (by omega)
    · obtain ⟨Ea, vs, es, hp, rk, x5, x6, x7, x8, x9, x10, rfl, ea, dA, eA, nEa, HIa, es1, cl, grow, el⟩ := hP
      rw [eT] at grow
      have vl := HIa.len hk
      have es0 : es = [] := grow.resolve_right (by omega)
      subst es0
      have all := OwG.HI.all (vs := vs) (hp := hp) (rk := rk) TO hk fun v hv => (cl v hv).resolve_left fun z => nomatch z
      have hands := HIa.hands hk all
      walk_at "rd"
      refine ⟨_, rfl, .inr (.inr (.inl ⟨rfl, .inl ⟨_, dA⟩⟩)), D, _, rfl, rfl, dA, fun iv hiv => ?_⟩
      have e1 : Ex Ha (upd Ha iv (L2.DX.itemsO iv D)) := Ex.new hiv
      have i1 : (upd Ha iv (L2.DX.itemsO iv D)) iv = some (L2.DX.itemsO iv D) := upd_same
      generalize upd Ha iv (L2.DX.itemsO iv D) = H4 at e1 i1 ⊢
      walk_at "rd"
      have e0 : hdD2 vs hp = (vs.map fun v => (v, hp v)).map fun e => ((Sum.inr e.1, V.str e.2) : Key × V) := by
        rw [List.map_map]
        rfl
      refine ⟨iv, D, vs.map fun v => (v, hp v), rfl, i1, by rw [← e0]; exact e1 _ _ dA, by rw [List.length_map]; omega, fun H5 l ts x5' l5 t5 pm so => ?_⟩
      have e5 : Ex H4 H5 := fun b o h => x5' b o h
      have mem : ∀ v, v ∈ vs ↔ v ∈ ks ∧ v ≠ home := fun v => ⟨fun h => ⟨HIa.sub v h, fun e => HIa.nh (e ▸ h)⟩, fun h => (List.mem_cons.mp (all v h.1)).resolve_left h.2⟩
      have et := pairs_are (hp := hp) ok.asc HIa.nd mem pm so
      walk_at "rd"
      refine ⟨l, ts.map (·.1), ts.map fun z => (Sum.inr z.2.1, V.str z.2.2), rfl, SqL.of (by rw [List.map_map]; exact l5), paired_of t5, fun q hq => ?_⟩
      have ek : (ts.map fun z => ((Sum.inr z.2.1, V.str z.2.2) : Key × V)) = hdD2 (notHome home ks) hp := by
        have z := congrArg (List.map fun e : Str × Str => ((Sum.inr e.1, V.str e.2) : Key × V)) et
        rw [List.map_map, List.map_map] at z
        exact z
      rw [ek, merge_nil]
      · exact k q _ hp rk (((ea.trans e1).trans e5).trans (Ex.new hq)) hands upd_same
      · unfold hdD2
        rw [List.map_map]
        have nh : (notHome home ks).Nodup := ok.knd.filter _
        refine List.pairwise_map.mpr (nh.imp fun {a b} n e => n ?_)
        exact Sum.inr.inj e
end
end OwW


namespace OwW
open PySem PyProof.Rows L2 L2H OwX Rd Evl OwAn
abbrev sLWay : Stmt := top 59
abbrev NLwy : List Str := ["_law_plain_here", "_law_tree_here", "_law_a", "_law_b", "_law_hands_here", "_law_found", "_law_turn"]
def spLWay : Sp := fun vs H Q _ => ∃ (d p : Addr) (a b : Str) (ks : List Str) (ys zs : TL), vs = [.ref d, .ref p, .str a, .str b] ∧ PlTree H d p ks ys zs ∧ a ∈ ks ∧ b ∈ ks ∧
  ∀ q H' l, Ex H H' → WayOk ks (zs.map (·.2)) b a l → H' q = some (.lst (l.map V.str)) → Q (.ref q) H'
section
variable {P : Program} {w : World} {K : PySem.W.Frag} {mg : Str → Option Value} {base : Heap}
theorem scLWay : FnScope NLwy ["_law_plain_here", "_law_tree_here", "_law_a", "_law_b"] (defScope sLWay) := ⟨rfl, rfl, rfl, by decide +kernel, rfl, by decide +kernel, by decide +kernel⟩
theorem ok_lway {f : Addr} {fd : FuncData} (F : Fun K "_law_way" "_law_way" sLWay f fd) (cH : Cl P w K mg base 1 "_law_hands" ["_law_plain_here", "_law_tree_here", "_law_home"] spLHands) (T : BltM mg) : FnOk P w K mg base CX0 2 f fd ["_law_plain_here", "_law_tree_here", "_law_a", "_law_b"] spLWay := by
  have nd := scLWay.nd
  refine F.ok scLWay (fun vs H Q E h => ?_) (fun cdv A outer s H vs Q E hr h => ⟨_, (pss_cons (ps_par (i := 4) (j := 5) rfl nd rfl rfl (by decide) rfl rfl (pa_cons (pe_call cH.ok (hr.mono (by decide)) (by rfl) cH.gl cH.kp cH.bd .nil pass0 (pa_cons (pv 0) (pa_cons (pv 1) (pa_cons (pv 3) pa_nil)))) (pa_cons (pe_lstN (pa_cons (pv 2) pa_nil)) pa_nil)) rfl)
    (pss_cons (ps_for PassesOwn.never rfl (pi_range1 rfl T.range (pa_cons (pe_callB call_len_seq (by rfl) T.len (by decide +kernel) (pa_cons (pe_dget (units1 hr) (pv 0) pe_str (fun _ _ => rfl)) pa_nil)) pa_nil)) (pg_name (i := 6) nd rfl (Or.inl rfl)) (pss_cons (ps_if (pt_cmpR op_eq (pe_ix ix_list (pv 5) (pe_un un_neg pe_int) (fun _ _ => rfl)) (pv 3) (nomark _)) (pss_one ps_break) pss_nil)
    (pss_one (ps_expr (pe_bm PySem.F.plainAttrs_list PySem.F.slot_list_append PySem.F.type_list_append mt_append (pv 5) (pa_cons (pe_dget (units1 hr) (pv 4) (pe_ix ix_list (pv 5) (pe_un un_neg pe_int) (fun _ _ => rfl)) (fun _ _ => rfl)) pa_nil))))))
    (pss_one (ps_ret (pv 5))))), ?_⟩)
  · obtain ⟨d, p, a, b, ks, ys, zs, rfl, _⟩ := h
    rfl
  · obtain ⟨d, p, a, b, ks, ys, zs, rfl, t, ak, bk, k⟩ := h
    have ok := t.ok
    have n9 := ok.nine
    have TO := t.tr.tree ok
    rw [show L2.start NLwy [V.ref d, V.ref p, V.str a, V.str b] = [some (.ref d), some (.ref p), some (.str a), some (.str b), none, none, none] from rfl]
    walk_at "rd"
    refine Rd.par2 ?_
    walk_at "rd"
    refine ⟨d, p, b, ks, ys, zs, rfl, t, bk, fun D H1 hp rk e1 HN hD => ?_⟩
    obtain ⟨w0, W0, l0⟩ := OwG.way_ex TO.sub HN ks.length a ak (HN.few a ak)
    walk_at "rd"
    refine ⟨small64 (n := 1) (by decide), fun L hL _ => ?_⟩
    have hL0 : H L = none := ex_none e1 hL
    have e2 : Ex H (upd H1 L (.lst [V.str a])) := e1.trans (Ex.new hL)
    have d2 := (Ex.new (o := .lst [V.str a]) hL) _ _ hD
    have l2 : (upd H1 L (.lst [V.str a])) L = some (.lst (([] : List Str).map V.str ++ [V.str a])) := upd_same
    generalize upd H1 L (.lst [V.str a]) = H2 at e2 d2 l2 ⊢
    have nLD : D ≠ L := fun e => by
      rw [e] at hD
      rw [hD] at hL
      exact nomatch hL
    walk_at "rd"
    refine ⟨_, _, rfl, ?_⟩
    dsimp only [List.set_cons_succ, List.set_cons_zero]
    walk_at "rd"
    have t2 := t.ex e2
    obtain ⟨⟨kp, tp, h1, h2, h3⟩, tay⟩ := t2.pl
    with_reducible refine Rd.for' (Rd.irng' ?_)
    unfold tDGet
    walk_at "rd"
    refine ⟨d, _, rfl, (pl_get h1).1, ?_⟩
    walk_at "rd"
    refine ⟨kp, _, rfl, Or.inl (SqL.of h2), ?_⟩
    rw [List.length_map]
    walk_at "rd"
    refine ⟨_, rfl, by omega, by omega, ?_⟩
    have eT : Int.toNat ((ks.length : Nat) : Int) = ks.length := rfl
    refine for_it walk_range (fun i σ H' => ∃ (pre w1 : List Str) (x : Str) (x6 : Option V), σ = [some (.ref d), some (.ref p), some (.str a), some (.str b), some (.ref D), some (.ref L), x6] ∧ Ex H H' ∧ H' D = some (.dK (hdD2 (notHome b ks) hp)) ∧ H' L = some (.lst (pre.map V.str ++ [V.str x])) ∧ OwG.Way (zs.map (·.2)) b x w1 ∧ pre ++ w1 = w0 ∧ pre.length = i)
      ⟨[], w0, a, _, rfl, e2, d2, l2, W0, rfl, rfl⟩ (fun _ _ _ _ _ => trivial) (fun i z σ Ha Hb hi hP hY => ?_) (fun σ Ha hP => ?_)
    · obtain ⟨pre, w1, x, x6, rfl, e3, d3, l3, W1, pw, pl⟩ := hP
      obtain ⟨rfl, rfl⟩ := hY
      walk_at "rd"
      dsimp only [List.set_cons_succ, List.set_cons_zero]
      walk_at "rd"
      refine Rd.ixl (SqL.of l3) atI_last ?_
      walk_at "rd"
      refine Rd.eq rfl ⟨_, rfl, ?_⟩
      cases W1 with
      | home =>
        refine Rd.iteT (by simp) ?_
        unfold tBreak
        walk_at "rd"
        have el : pre.map V.str ++ [V.str b] = w0.map V.str := by rw [← pw, List.map_append]; rfl
        rw [el] at l3
        exact k L Hb w0 e3 ⟨W0, hp, rk, HN⟩ l3
      | @on _ q w2 pa W2 =>
        refine Rd.iteF (by simp [pa.ne]) ?_
        have xk := (pa.adj.in_ TO.sub).1
        have eq : q = hp x := pa.uniq ok.knd TO (HN.par x xk pa.ne)
        have pl : pre.length ≤ 9 := by
          have z := congrArg List.length pw
          rw [List.length_append] at z
          omega
        walk_at "rd"
        refine ⟨_, rfl, .inl ⟨rfl, _, SqL.of l3⟩, ?_⟩
        walk_at "rd"
        refine Rd.ixl (SqL.of l3) atI_last ?_
        have xn : x ∈ notHome b ks := List.mem_filter.mpr ⟨xk, by simp [pa.ne]⟩
        have dg := DGet.k (k := Sum.inr x) d3
        rw [hd_val, if_pos xn, ← eq] at dg
        refine ⟨D, _, rfl, dg, ?_⟩
        walk_at "rd"
        refine ⟨L, _, .str q, rfl, rfl, l3, sz_lt (by rw [List.length_append, List.length_map, List.length_singleton]; omega), ?_⟩
        refine ⟨pre ++ [x], w2, q, _, rfl, e3.mut hL0, (upd_ne nLD).trans d3, ?_, W2, ?_, by rw [List.length_append, List.length_singleton]; omega⟩
        · rw [upd_same, List.map_append]
          rfl
        · rw [← pw, List.append_assoc]
          rfl
    · obtain ⟨pre, w1, x, x6, rfl, e3, d3, l3, W1, pw, pl⟩ := hP
      rw [eT] at pl
      obtain ⟨w', rfl⟩ := W1.hd
      have z := congrArg List.length pw
      rw [List.length_append, List.length_cons] at z
      omega
end
end OwW


namespace OwW
open PySem PyProof.Rows L2 L2H OwX Rd Evl
abbrev sLWri : Stmt := top 55
abbrev NLx : List Str := ["_law_way_here", "_law_table", "_law_ties", "_law_place", "_law_other"]
/-- the kite -/
def kiteT : List (Str × List Str) := [("a", ["b", "c"]), ("b", ["a", "c", "d"]), ("c", ["a", "d", "b"]), ("d", ["b", "c"])]
def kiteK : List Str := ["a", "b", "c", "d"]
def kiteE : List (Str × Str) := [("a", "b"), ("a", "c"), ("b", "c"), ("b", "d"), ("c", "d")]
def spLWri : Sp := fun vs H Q _ => vs = [.int 1] ∧ ∀ p d t H' (zs : TL), Ex H H' → H' p = some (.tup [.ref d, .ref t]) → PlainAt H' d kiteK zs → zs.map (·.2) = kiteE → H d = none → Q (.ref p) H'
def kiteP (i : Nat) : List (Str × Str) := (kiteT.take i).flatMap fun p => p.2.map fun o => norm (p.1, o)
theorem dgetF {H : Hp} {a : Addr} {o : Obj} {kvs : List (Key × V)} {k : Key} (e : H a = some (.frz o (.dK kvs))) : DGet H a (kV k) (valV kvs k) := .inl ⟨kvs, k, .inr ⟨_, e⟩, rfl, rfl⟩
theorem pw_uniq {α : Type} {r : α → α → Bool} (ir : ∀ a, r a a = false) (tr : ∀ {a b c}, r a b = true → r b c = true → r a c = true) : ∀ {l m : List α}, l.Pairwise (fun a b => r a b = true) → m.Pairwise (fun a b => r a b = true) → (∀ x, x ∈ l ↔ x ∈ m) → l = m
  | [], [], _, _, _ => rfl
  | [], y :: m, _, _, h => nomatch (h y).mpr List.mem_cons_self
  | x :: l, [], _, _, h => nomatch (h x).mp List.mem_cons_self
  | x :: l, y :: m, a, b, h => by
    have a' := List.pairwise_cons.mp a
    have b' := List.pairwise_cons.mp b
    have no : ∀ z, r z z = true → False := fun z hz => by rw [ir z] at hz; exact nomatch hz
    have xy : x = y := by
      rcases List.mem_cons.mp ((h x).mp List.mem_cons_self) with e | e
      · exact e
      · rcases List.mem_cons.mp ((h y).mpr List.mem_cons_self) with g | g
        · exact g.symm
        · exact (no x (tr (a'.1 y g) (b'.1 x e))).elim
    subst xy
    rw [pw_uniq ir tr a'.2 b'.2 fun z => ?_]
    constructor
    · intro hz
      rcases List.mem_cons.mp ((h z).mp (List.mem_cons_of_mem _ hz)) with e | e
      · exact (no x (by have q := a'.1 z hz; rw [e] at q; exact q)).elim
      · exact e
    · intro hz
      rcases List.mem_cons.mp ((h z).mpr (List.mem_cons_of_mem _ hz)) with e | e
      · exact (no x (by have q := b'.1 z hz; rw [e] at q; exact q)).elim
      · exact e
theorem kite_asc : kiteK.Pairwise (fun a b => OwL2.lt a b = true) := by decide +kernel
theorem kite_tasc : kiteE.Pairwise (fun a b => OwL2.ltP a b = true) := by decide +kernel
theorem kite_keys {ks : List Str} (asc : ks.Pairwise (fun a b => OwL2.lt a b = true)) (km : ∀ k, k ∈ ks ↔ ∃ t ∈ kiteP 4, k = t.1 ∨ k = t.2) : ks = kiteK := by
  refine pw_uniq lt_irr lt_tr asc kite_asc fun k => ?_
  rw [km k]
  constructor
  · rintro ⟨t, ht, e⟩
    have z : ∀ t ∈ kiteP 4, t.1 ∈ kiteK ∧ t.2 ∈ kiteK := by decide +kernel
    rcases e with e | e
    · rw [e]; exact (z t ht).1
    · rw [e]; exact (z t ht).2
  · intro h
    have z : ∀ k ∈ kiteK, ∃ t ∈ kiteP 4, k = t.1 ∨ k = t.2 := by decide +kernel
    exact z k h
theorem kite_ties {ts : List (Str × Str)} (tasc : ts.Pairwise (fun a b => OwL2.ltP a b = true)) (tm : ∀ t, t ∈ ts ↔ t ∈ (kiteP 4).map norm) : ts = kiteE := by
  refine pw_uniq ltP_irr ltP_tr tasc kite_tasc fun t => ?_
  rw [tm t]
  have z : ∀ t ∈ (kiteP 4).map norm, t ∈ kiteE := by decide +kernel
  have y : ∀ t ∈ kiteE, t ∈ (kiteP 4).map norm := by decide +kernel
  exact ⟨z t, y t⟩
theorem kiteP_step {i : Nat} {p : Str × List Str} (h : kiteT[i]? = some p) : kiteP (i + 1) = kiteP i ++ p.2.map fun o => norm (p.1, o) := by
  unfold kiteP
  rw [List.take_add_one, h, List.flatMap_append]
  show _ ++ (_ ++ []) = _
  rw [List.append_nil]
theorem kiteP_len : ∀ i : Fin 5, (kiteP i.val).length ≤ 10 := by decide +kernel
theorem kite_len : ∀ p ∈ kiteT, p.2.length ≤ 3 := by decide +kernel
def kiteD (v1 v2 v3 v4 : Addr) : List (Key × V) := [(Sum.inr "a", .ref v1), (Sum.inr "b", .ref v2), (Sum.inr "c", .ref v3), (Sum.inr "d", .ref v4)]
theorem kite_nd (v1 v2 v3 v4 : Addr) : ((kiteD v1 v2 v3 v4).map (·.1)).Nodup := keys_nodup (ls := kiteK) (by decide +kernel)
section
variable {P : Program} {w : World} {K : PySem.W.Frag} {mg : Str → Option Value} {base : Heap}
theorem scLWri : FnScope NLx ["_law_way_here"] (defScope sLWri) := ⟨rfl, rfl, rfl, by decide +kernel, rfl, by decide +kernel, by decide +kernel⟩
theorem ok_lwri {f g l : Addr} {fd gd ld : FuncData} (F : Fun K "_law_written" "_law_written" sLWri f fd) (FT : Fun K "_law_tie" "_law_tie" sTie g gd) (gT : mg "_law_tie" = some (.ref g)) (GT : FnOk P w K mg base CX0 1 g gd ["_law_a", "_law_b"] spTie)
    (FL : Fun K "_law_plain" "_law_plain" sPlain l ld) (gL : mg "_law_plain" = some (.ref l)) (GL : FnOk P w K mg base CX0 2 l ld ["_law_places", "_law_ties"] spPlain) : FnOk P w K mg base CX0 3 f fd ["_law_way_here"] spLWri := by
  have nd := scLWri.nd
  have bT : Binds K gd ["_law_a", "_law_b"] [] := FT.binds fun _ _ _ _ _ _ us hl => match us, hl with | [_, _], _ => rfl
  have bL : Binds K ld ["_law_places", "_law_ties"] [] := FL.binds fun _ _ _ _ _ _ us hl => match us, hl with | [_, _], _ => rfl
  refine F.ok scLWri (fun vs H Q E h => ?_) (fun cdv A outer s H vs Q E hr h => ⟨_, (pss_cons (ps_if (pt_cmpR op_eq (pv 0) pe_int (nomark _)) (pss_one (ps_set (i := 1) nd rfl (Or.inl rfl) (pe_disp (pps_cons pe_str (pe_tup (pa_cons pe_str (pa_cons pe_str pa_nil))) (pps_cons pe_str (pe_tup (pa_cons pe_str (pa_cons pe_str pa_nil))) (pps_cons pe_str (pe_tup (pa_cons pe_str (pa_cons pe_str pa_nil))) pps_nil))) (by rfl) (by rfl) (fun z => by cases z) (by decide)))) (pss_one (ps_if (pt_cmpR op_eq (pv 0) pe_int (nomark _)) (pss_one (ps_set (i := 1) nd rfl (Or.inl rfl) (pe_disp (pps_cons pe_str (pe_tup (pa_cons pe_str (pa_cons pe_str pa_nil))) (pps_cons pe_str (pe_tup (pa_cons pe_str (pa_cons pe_str (pa_cons pe_str pa_nil)))) (pps_cons pe_str (pe_tup (pa_cons pe_str (pa_cons pe_str (pa_cons pe_str pa_nil)))) (pps_cons pe_str (pe_tup (pa_cons pe_str (pa_cons pe_str pa_nil))) pps_nil)))) (by rfl) (by rfl) (fun z => by cases z) (by decide)))) (pss_one (ps_if (pt_cmpR op_eq (pv 0) pe_int (nomark _)) (pss_one (ps_set (i := 1) nd rfl (Or.inl rfl) (pe_disp (pps_cons pe_str (pe_tup (pa_cons pe_str (pa_cons pe_str pa_nil))) (pps_cons pe_str (pe_tup (pa_cons pe_str (pa_cons pe_str (pa_cons pe_str pa_nil)))) (pps_cons pe_str (pe_tup (pa_cons pe_str (pa_cons pe_str (pa_cons pe_str pa_nil)))) (pps_cons pe_str (pe_tup (pa_cons pe_str (pa_cons pe_str pa_nil))) pps_nil)))) (by rfl) (by rfl) (fun z => by cases z) (by decide)))) (pss_one (ps_if (pt_cmpR op_eq (pv 0) pe_int (nomark _)) (pss_one (ps_set (i := 1) nd rfl (Or.inl rfl) (pe_disp (pps_cons pe_str (pe_tup (pa_cons pe_str (pa_cons pe_str (pa_cons pe_str pa_nil)))) (pps_cons pe_str (pe_tup (pa_cons pe_str (pa_cons pe_str (pa_cons pe_str pa_nil)))) (pps_cons pe_str (pe_tup (pa_cons pe_str (pa_cons pe_str (pa_cons pe_str pa_nil)))) (pps_cons pe_str (pe_tup (pa_cons pe_str (pa_cons pe_str (pa_cons pe_str pa_nil)))) pps_nil)))) (by rfl) (by rfl) (fun z => by cases z) (by decide)))) (pss_one (ps_if (pt_cmpR op_eq (pv 0) pe_int (nomark _)) (pss_cons (ps_set (i := 1) nd rfl (Or.inl rfl) (pe_disp (pps_cons pe_str (pe_tup (pa_cons pe_str (pa_cons pe_str (pa_cons pe_str pa_nil)))) (pps_cons pe_str (pe_tup (pa_cons pe_str (pa_cons pe_str (pa_cons pe_str pa_nil)))) (pps_cons pe_str (pe_tup (pa_cons pe_str (pa_cons pe_str (pa_cons pe_str pa_nil)))) (pps_cons pe_str (pe_tup (pa_cons pe_str (pa_cons pe_str (pa_cons pe_str pa_nil)))) pps_nil)))) (by rfl) (by rfl) (fun z => by cases z) (by decide)))
    (pss_one (ps_asg (pe_tup (pa_cons pe_str (pa_cons pe_str (pa_cons pe_str (pa_cons pe_str pa_nil))))) (pg_sub (pv 1) pe_str (L2.set_dict (units1 hr)))))) (pss_one (ps_set (i := 1) nd rfl (Or.inl rfl) (pe_disp (pps_cons pe_str (pe_tup (pa_cons pe_str pa_nil)) (pps_cons pe_str (pe_tup (pa_cons pe_str pa_nil)) pps_nil)) (by rfl) (by rfl) (fun z => by cases z) (by decide)))))))))))))
    (pss_cons (ps_set (i := 2) nd rfl (Or.inl rfl) (pe_lst pa_nil))
    (pss_cons (ps_lock (ps_for PassesOwn.never rfl (pi_keys (pv 1)) (pg_name (i := 3) nd rfl (Or.inr rfl)) (pss_one (ps_expr (pe_bm PySem.F.plainAttrs_list PySem.F.slot_list_extend PySem.F.type_list_extend mt_extend (pv 2) (pa_cons (pe_lc (own := [("_law_other", 4)]) (g := gName 4) (tt := tYes) (te := tCall spTie [] E0 (tCons (tVar 3) (tCons (tVar 4) tNil))) rfl nd (pi_tup (pe_dget (units1 hr) (pv 1) (pv 3) (fun _ _ => rfl))) (blkOk_by (own := [("_law_other", 4)]) (N := NLx) (sc := defScope sLWri) (by decide +kernel)) (fun _ _ _ _ _ => (pg_name (i := 4) nd rfl (Or.inl rfl))) (fun _ _ _ _ _ => pts_nil) (fun _ _ _ _ _ => (pe_call GT (hr.mono (by decide)) (by rfl) gT FT.kp bT .nil pass0 (pa_cons (pv 3) (pa_cons (pv 4) pa_nil))))) pa_nil))))))
    (pss_one (ps_ret (pe_tup (pa_cons (pe_call GL (hr.mono (by decide)) (by rfl) gL FL.kp bL .nil pass0 (pa_cons (pe_lst pa_nil) (pa_cons (pv 2) pa_nil))) (pa_cons (pv 1) pa_nil)))))))), ?_⟩)
  · obtain ⟨rfl, _⟩ := h
    rfl
  · obtain ⟨rfl, k⟩ := h
    rw [show L2.start NLx [V.int 1] = [some (.int 1), none, none, none, none] from rfl]
    walk_at "rd"
    refine ⟨rfl, _, rfl, ?_⟩
    refine Rd.iteF (by decide) ?_
    walk_at "rd"
    refine ⟨rfl, _, rfl, ?_⟩
    refine Rd.iteT (by decide) ?_
    walk_at "rd"
    unfold tDisp
    intro tb htb
    have e1 : Ex H (upd H tb (.dK [])) := Ex.new htb
    have b1 : (upd H tb (.dK [])) tb = some (.dK []) := upd_same
    generalize upd H tb (.dK []) = H1 at e1 b1 ⊢
    unfold tPairs
    walk_at "rd"
    refine ⟨small64 (n := 2) (by decide), fun v1 g1 => ?_⟩
    have e2 : Ex H1 (upd H1 v1 (.tup [.str "b", .str "c"])) := Ex.new g1
    have c1 : (upd H1 v1 (.tup [.str "b", .str "c"])) v1 = some (.tup [.str "b", .str "c"]) := upd_same
    generalize upd H1 v1 (.tup [.str "b", .str "c"]) = H2 at e2 c1 ⊢
    unfold tPairs
    walk_at "rd"
    refine ⟨small64 (n := 3) (by decide), fun v2 g2 => ?_⟩
    have e3 : Ex H2 (upd H2 v2 (.tup [.str "a", .str "c", .str "d"])) := Ex.new g2
    have c2 : (upd H2 v2 (.tup [.str "a", .str "c", .str "d"])) v2 = some (.tup [.str "a", .str "c", .str "d"]) := upd_same
    generalize upd H2 v2 (.tup [.str "a", .str "c", .str "d"]) = H3 at e3 c2 ⊢
    unfold tPairs
    walk_at "rd"
    refine ⟨small64 (n := 3) (by decide), fun v3 g3 => ?_⟩
    have e4 : Ex H3 (upd H3 v3 (.tup [.str "a", .str "d", .str "b"])) := Ex.new g3
    have c3 : (upd H3 v3 (.tup [.str "a", .str "d", .str "b"])) v3 = some (.tup [.str "a", .str "d", .str "b"]) := upd_same
    generalize upd H3 v3 (.tup [.str "a", .str "d", .str "b"]) = H4 at e4 c3 ⊢
    unfold tPairs
    walk_at "rd"
    refine ⟨small64 (n := 2) (by decide), fun v4 g4 => ?_⟩
    have e5 : Ex H4 (upd H4 v4 (.tup [.str "b", .str "c"])) := Ex.new g4
    have c4 : (upd H4 v4 (.tup [.str "b", .str "c"])) v4 = some (.tup [.str "b", .str "c"]) := upd_same
    generalize upd H4 v4 (.tup [.str "b", .str "c"]) = H5 at e5 c4 ⊢
    unfold tPairs
    refine ⟨(e2.trans (e3.trans (e4.trans e5))) _ _ b1, kiteD v1 v2 v3 v4, rfl, by show 4 ≤ 15; decide, ?_⟩
    rw [merge_nil (kvs := kiteD v1 v2 v3 v4) (kite_nd v1 v2 v3 v4)]
    have eZ : Ex H (upd H5 tb (.dK (kiteD v1 v2 v3 v4))) := (e1.trans (e2.trans (e3.trans (e4.trans e5)))).mut htb
    have zt : (upd H5 tb (.dK (kiteD v1 v2 v3 v4))) tb = some (.dK (kiteD v1 v2 v3 v4)) := upd_same
    have b5 := (e2.trans (e3.trans (e4.trans e5))) _ _ b1
    have vn : ∀ v xs, H5 v = some (.tup xs) → ∀ o, (upd H5 tb o) v = some (.tup xs) := fun v xs h o => (upd_ne (fun e => by rw [e, b5] at h; exact nomatch h)).trans h
    have prop : ∀ (i : Nat) (p : Str × List Str), kiteT[i]? = some p → ∃ v, (kiteD v1 v2 v3 v4)[i]? = some (Sum.inr p.1, .ref v) ∧ valV (kiteD v1 v2 v3 v4) (Sum.inr p.1) = some (.ref v) ∧ (upd H5 tb (.dK (kiteD v1 v2 v3 v4))) v = some (.tup (p.2.map V.str)) := by
      intro i p hp
      match i with
      | 0 => cases hp; exact ⟨v1, rfl, rfl, vn _ _ ((e3.trans (e4.trans e5)) _ _ c1) _⟩
      | 1 => cases hp; exact ⟨v2, rfl, rfl, vn _ _ ((e4.trans e5) _ _ c2) _⟩
      | 2 => cases hp; exact ⟨v3, rfl, rfl, vn _ _ (e5 _ _ c3) _⟩
      | 3 => cases hp; exact ⟨v4, rfl, rfl, vn _ _ c4 _⟩
      | n + 4 => exact nomatch hp
    have kl : (kiteD v1 v2 v3 v4).length = 4 := rfl
    generalize upd H5 tb (.dK (kiteD v1 v2 v3 v4)) = Z at eZ zt prop ⊢
    generalize (kiteD v1 v2 v3 v4) = kvs at zt prop kl
    clear vn b5 b1 c1 c2 c3 c4 e1 e2 e3 e4 e5 g1 g2 g3 g4
    walk_at "rd"
    refine ⟨Nat.zero_le _, fun G hG => ?_⟩
    have nG : G ≠ tb := fun e => by
      rw [e, zt] at hG
      exact nomatch hG
    dsimp only [List.set_cons_succ, List.set_cons_zero]
    walk_at "rd"
    dsimp only [List.set_cons_succ, List.set_cons_zero]
    unfold tLock
    refine ⟨tb, .dK kvs, (upd_ne nG.symm).trans zt, trivial, fun od => ?_⟩
    with_reducible refine Rd.for' ?_
    unfold iKeys
    walk_at "rd"
    refine ⟨tb, od, rfl, .inl ⟨kvs, upd_same, ?_⟩⟩
    have BX : Ex H (upd Z tb (.frz od (.dK kvs))) := eZ.mut htb
    have bt : (upd Z tb (.frz od (.dK kvs))) tb = some (.frz od (.dK kvs)) := upd_same
    have bG : (upd Z tb (.frz od (.dK kvs))) G = none := (upd_ne nG).trans hG
    have bp : ∀ (i : Nat) (p : Str × List Str), kiteT[i]? = some p → ∃ v, kvs[i]? = some (Sum.inr p.1, .ref v) ∧ valV kvs (Sum.inr p.1) = some (.ref v) ∧ (upd Z tb (.frz od (.dK kvs))) v = some (.tup (p.2.map V.str)) := fun i p hp => by
      obtain ⟨v, y1, y2, y3⟩ := prop i p hp
      exact ⟨v, y1, y2, (upd_ne (fun e => by rw [e, zt] at y3; exact nomatch y3)).trans y3⟩
    have e0 : Ex (upd Z tb (.frz od (.dK kvs))) (upd (upd Z G (.lst [])) tb (.frz od (.dK kvs))) := fun b o hb => by
      by_cases c : b = tb
      · rw [c] at hb ⊢
        rw [bt] at hb
        rw [upd_same]
        exact hb
      · rw [upd_ne c] at hb ⊢
        exact (Ex.new hG) _ _ hb
    have g0 : (upd (upd Z G (.lst [])) tb (.frz od (.dK kvs))) G = some (.lst (rf [])) := (upd_ne nG).trans upd_same
    generalize upd Z tb (.frz od (.dK kvs)) = B at BX bt bG bp e0
    generalize upd (upd Z G (.lst [])) tb (.frz od (.dK kvs)) = L0 at e0 g0 ⊢
    clear prop zt hG eZ Z
    refine for_it (walk_keys (d := tb) (o := od) (kvs := kvs)) (fun i σ H' => ∃ (x : Option V) (zs : TL), σ = [some (.int 1), some (.ref tb), some (.ref G), x, none] ∧ Ex B H' ∧ H' G = some (.lst (rf zs)) ∧ TA H' zs ∧ zs.map (·.2) = kiteP i) ⟨none, [], rfl, e0, g0, (fun _ h => nomatch h), rfl⟩ (fun i σ H' _ hP => ?_) (fun i z σ H3 H4 hi hP hY => ?_) (fun σ H3 hP => ?_)
    · obtain ⟨_, _, _, e3, _⟩ := hP
      exact e3 _ _ bt
    · obtain ⟨x, zs, rfl, e3, hz3, taz, pz⟩ := hP
      obtain ⟨rfl, kk, vv, hkv, rfl⟩ := hY
      rw [kl] at hi
      obtain ⟨p, hp⟩ : ∃ p, kiteT[i]? = some p := ⟨_, List.getElem?_eq_getElem hi⟩
      obtain ⟨v, y1, y2, y3⟩ := bp i p hp
      rw [y1] at hkv
      cases hkv
      have zlen : zs.length ≤ 10 := by
        have z := kiteP_len ⟨i, by omega⟩
        have y : (kiteP i).length ≤ 10 := z
        rw [← pz, List.length_map] at y
        exact y
      have plen := kite_len p (List.mem_of_getElem? hp)
      walk_at "rd"
      dsimp only [List.set_cons_succ, List.set_cons_zero]
      unfold tBM
      walk_at "rd"
      refine ⟨.inl ⟨rfl, _, SqL.of hz3⟩, ?_⟩
      walk_at "rd"
      refine Rd.lcm' (Rd.itup' ?_)
      unfold tDGet
      walk_at "rd"
      have g1 := dgetF (k := Sum.inr p.1) (e3 _ _ bt)
      rw [y2] at g1
      refine ⟨tb, _, rfl, g1, v, rfl, ⟨_, SqT.of (e3 _ _ y3)⟩, fun D hD => ?_⟩
      refine lc_it (walk_tup (xs := p.2.map V.str)) (fun j H' => Ex H4 H' ∧ ∃ ws : TL, H' D = some (.lst (rf ws)) ∧ TA H' ws ∧ ws.map (·.2) = (p.2.take j).map fun o => norm (p.1, o)) ⟨Ex.new hD, [], upd_same, (fun _ h => nomatch h), rfl⟩ (fun j H' _ hP => SqT.of (hP.1 _ _ (e3 _ _ y3))) (fun j z Ha Hb hj hP hY => ?_) (fun H6 hP => ?_)
      · obtain ⟨e6, ws, hw6, taw, mw⟩ := hP
        obtain ⟨rfl, hz⟩ := hY
        rw [List.getElem?_map] at hz
        cases ho : p.2[j]? with
        | none => rw [ho] at hz; exact nomatch hz
        | some o =>
          rw [ho] at hz
          cases hz
          have wl : ws.length ≤ 3 := by
            have z := congrArg List.length mw
            rw [List.length_map, List.length_map, List.length_take] at z
            omega
          show _ ∧ _
          refine ⟨rfl, ?_⟩
          unfold tYes
          show (if (true : Bool) = true then _ else _)
          rw [if_pos rfl]
          walk_at "rd"
          refine ⟨p.1, o, rfl, fun r H7 e7 hr7 hrn => ⟨rf ws, e7 _ _ hw6, sz_lt (by unfold rf; rw [List.length_map]; omega), (e6.trans e7).mut hD, ws ++ [(r, norm (p.1, o))], ?_, fun z hz => ?_, ?_⟩⟩
          · unfold rf
            rw [List.map_append]
            exact upd_same
          · have hDD := e7 _ _ hw6
            have key : H7 z.1 = some (.tup [V.str z.2.1, V.str z.2.2]) := by
              rcases List.mem_append.mp hz with y | y
              · exact e7 _ _ (taw z y)
              · rw [List.mem_singleton.mp y]
                exact hr7
            have ne : z.1 ≠ D := fun e => by
              rw [e, hDD] at key
              exact nomatch key
            exact (upd_ne ne).trans key
          · rw [List.map_append, mw, List.take_add_one, ho, List.map_append]
            rfl
      · obtain ⟨e6, ws, hw6, taw, mw⟩ := hP
        rw [List.length_map, List.take_length] at mw
        have wl : ws.length ≤ 3 := by
          have z := congrArg List.length mw
          rw [List.length_map, List.length_map] at z
          omega
        walk_at "rd"
        have g6 := e6 _ _ hz3
        refine ⟨G, D, rf zs, rf ws, rfl, rfl, g6, hw6, ?_, ?_⟩
        · unfold rf
          rw [List.length_map, List.length_map]
          exact Nat.le_of_lt (sz_lt (by omega))
        · walk_at "rd"
          refine ⟨_, zs ++ ws, rfl, (e3.trans e6).mut bG, ?_, fun z hz => ?_, ?_⟩
          · unfold rf
            rw [List.map_append]
            exact upd_same
          · have key : H6 z.1 = some (.tup [V.str z.2.1, V.str z.2.2]) := by
              rcases List.mem_append.mp hz with y | y
              · exact e6 _ _ (taz z y)
              · exact taw z y
            have ne : z.1 ≠ G := fun e => by
              rw [e, g6] at key
              exact nomatch key
            exact (upd_ne ne).trans key
          · rw [List.map_append, pz, mw, kiteP_step hp]
    · obtain ⟨x, zs, rfl, e3, hz3, taz, pz⟩ := hP
      rw [kl] at pz
      refine ⟨e3 _ _ bt, ?_⟩
      have E5 : Ex H (upd H3 tb (.dK kvs)) := (BX.trans e3).mut htb
      have G5 : (upd H3 tb (.dK kvs)) G = some (.lst (rf zs)) := (upd_ne nG).trans hz3
      have T5 : TA (upd H3 tb (.dK kvs)) zs := fun z hz => (upd_ne (fun e => by have y := taz z hz; rw [e, e3 _ _ bt] at y; exact nomatch y)).trans (taz z hz)
      have zl : zs.length ≤ 30 := by
        have z := kiteP_len ⟨4, by decide⟩
        have y : (kiteP 4).length ≤ 10 := z
        rw [← pz, List.length_map] at y
        omega
      generalize upd H3 tb (.dK kvs) = H7 at E5 G5 T5 ⊢
      walk_at "rd"
      refine ⟨Nat.zero_le _, fun bl hbl => ?_⟩
      walk_at "rd"
      refine ⟨bl, G, zs, rfl, upd_same, (Ex.new hbl) _ _ G5, T5.ex (Ex.new hbl), zl, fun d H8 ks ys e8 pl asc km tasc tm hdn => ?_⟩
      walk_at "rd"
      refine ⟨small64 (n := 2) (by decide), fun p hp => ?_⟩
      have ek : ks = kiteK := kite_keys asc (fun k => by rw [km k, pz])
      have E8 : Ex H H8 := E5.trans ((Ex.new hbl).trans e8)
      have dn : H d = none := ex_none (E5.trans (Ex.new hbl)) hdn
      rw [ek] at pl
      exact k p d tb _ ys (E8.trans (Ex.new hp)) upd_same (pl.ex (Ex.new hp)) (kite_ties tasc fun t => by rw [tm t, pz]) dn
end
end OwW

/-! cuts, lots and ways of a tree, against one another. -/
namespace OwW
open PySem PyProof.Rows L2 L2H OwX Rd Evl OwAn
theorem pair_mem {es : List Str} {t : Str × Str} : acrossB es t = true ↔ ¬ (t.1 ∈ es ↔ t.2 ∈ es) := by
  unfold acrossB
  by_cases c : t.1 ∈ es <;> by_cases d : t.2 ∈ es <;> simp [c, d]
theorem acr_same {ks l l0 : List Str} {t : Str × Str} (h : (∀ k ∈ ks, (k ∈ l0 ↔ k ∈ l)) ∨ (∀ k ∈ ks, (k ∈ l0 ↔ ¬ k ∈ l))) (ht : t.1 ∈ ks ∧ t.2 ∈ ks) : acrossB l0 t = acrossB l t := by
  rw [Bool.eq_iff_iff, pair_mem, pair_mem]
  rcases h with h | h
  · rw [h _ ht.1, h _ ht.2]
  · rw [h _ ht.1, h _ ht.2]
    by_cases c : t.1 ∈ l <;> by_cases d : t.2 ∈ l <;> simp [c, d]
section
variable {ks : List Str} {tr : List (Str × Str)} {u : Str × Str}
/-- the side of u.1 -/
def SideOf (tr : List (Str × Str)) (u : Str × Str) (l : List Str) : Prop := ∀ k, k ∈ l ↔ OwG.Con (OwG.but tr u) u.1 k
/-- a lot is one of the two sides -/
theorem lot_side (nd : ks.Nodup) (T : OwG.TreeOk ks tr) (hu : u ∈ tr) {l l0 : List Str} (hl : SideOf tr u l) (h0 : LotOk (OwG.but tr u) l0) (sub : ∀ k ∈ l0, k ∈ ks) : (∀ k ∈ ks, (k ∈ l0 ↔ k ∈ l)) ∨ (∀ k ∈ ks, (k ∈ l0 ↔ ¬ k ∈ l)) := by
  obtain ⟨x, xin, hx⟩ := h0.ex
  have xk := sub x xin
  have m : ∀ k, k ∈ l0 ↔ OwG.Con (OwG.but tr u) x k := fun k => (hx k).trans rch_con
  have nc : ¬ OwG.Con (OwG.but tr u) u.1 u.2 := T.cut nd hu
  have two : ∀ k ∈ ks, OwG.Con (OwG.but tr u) u.1 k ∨ OwG.Con (OwG.but tr u) u.2 k := fun k hk => T.two (u := u.1) (v := u.2) hu hk
  rcases two x xk with c | c
  · left
    intro k _
    rw [m, hl]
    exact ⟨fun z => c.trans z, fun z => c.symm.trans z⟩
  · right
    intro k hk
    rw [m, hl]
    constructor
    · intro z y
      exact nc (y.trans (c.trans z).symm)
    · intro z
      rcases two k hk with y | y
      · exact absurd y z
      · exact c.symm.trans y
/-- a tie crosses just where its ends come apart -/
theorem across_con (nd : ks.Nodup) (T : OwG.TreeOk ks tr) (hu : u ∈ tr) {l : List Str} (hl : SideOf tr u l) {v : Str × Str} (hv : v.1 ∈ ks ∧ v.2 ∈ ks) : acrossB l v = true ↔ ¬ OwG.Con (OwG.but tr u) v.1 v.2 := by
  rw [pair_mem, hl, hl]
  have nc : ¬ OwG.Con (OwG.but tr u) u.1 u.2 := T.cut nd hu
  constructor
  · intro h c
    exact h ⟨fun z => z.trans c, fun z => z.trans c.symm⟩
  · intro h c
    rcases T.two (u := u.1) (v := u.2) hu hv.1 with a | a
    · exact h (a.symm.trans (c.mp a))
    · rcases T.two (u := u.1) (v := u.2) hu hv.2 with b | b
      · exact h ((c.mpr b).symm.trans b)
      · exact h (a.symm.trans b)
end
/-- two sorted rows of names with the same names -/
theorem sort_same {l m : List Str} (sl : sortedS l = true) (nl : l.Nodup) (sm : sortedS m = true) (nm : m.Nodup) (h : ∀ k, k ∈ l ↔ k ∈ m) : l = m :=
  asc_eq (ascB_pw (r := OwL2.lt) (fun h g => lt_tr h g) (asc_sorted sl nl)) (ascB_pw (r := OwL2.lt) (fun h g => lt_tr h g) (asc_sorted sm nm)) h
theorem sort_sameP {l m : List (Str × Str)} (sl : l.Pairwise (fun a b => OwL2.ltP a b = true)) (sm : m.Pairwise (fun a b => OwL2.ltP a b = true)) (h : ∀ k, k ∈ l ↔ k ∈ m) : l = m := pw_uniq ltP_irr ltP_tr sl sm h
def l0A : Addr × List Str := (0, [])
/-- [lot for lot in lots if ..] -/
theorem lc_lots {J : It} {G : Hp → Prop} {fs : List (Addr × List Str)} (wk : Walk J (tmk fs).length G (YAt (tmk fs))) (g : List Str → Bool) {gt : TG} {tt : TT} {te : TE} {js : List Nat} {σ : L2.St} {H1 : Hp} {D : Addr} {Qd : Hp → Prop} (hD : H1 D = none) (hl : fs.length ≤ 1000) (hG : ∀ H', Ex H1 H' → G H')
    (hs : ∀ u ∈ fs, ∀ (H : Hp) (B : L2.St → Bool → Hp → Prop), Ex H1 H → (∀ σ2 H4, Ex H H4 → (g u.2 = true → ∀ R : V → Hp → Prop, (∀ H5, Ex H H5 → R (.ref u.1) H5) → te σ2 H4 R) → B σ2 (g u.2) H4) → gt (.ref u.1) (wipe σ js) H fun σ2 H2 => wipe σ2 js = wipe σ js ∧ tt σ2 H2 (B σ2))
    (hd : ∀ H, Ex H1 H → H D = some (.lst (tmk (fs.filter fun u => g u.2))) → Qd H) :
    ∃ W : Nat → Nat → Hp → Prop, (∃ m, W 0 m (upd H1 D (.lst []))) ∧ ∀ i m H, W i m H →
      (J.stop i H ∧ Qd H) ∨ (J.go i H ∧ ∃ Nx : Hp → Prop, (∀ H', Nx H' → ∃ m', m' < m ∧ W (i + 1) m' H') ∧ ∀ x H', J.yld i H x H' → gt x (wipe σ js) H' fun σ2 H2 => wipe σ2 js = wipe σ js ∧ tt σ2 H2 fun b H3 =>
        if b = true then te σ2 H3 fun y H4 => ∃ acc, H4 D = some (.lst acc) ∧ acc.length < sizeLine ∧ Nx (upd H4 D (.lst (acc ++ [y]))) else Nx H3) := by
  have keep : ((List.range (tmk fs).length).filter fun i => g (fs.getD i l0A).2).map (fun i => V.ref (fs.getD i l0A).1) = tmk (fs.filter fun u => g u.2) := by
    have z := congrArg (List.map fun p : Addr × List Str => V.ref p.1) (range_filter fs l0A fun u => g u.2)
    rw [List.map_map] at z
    unfold tmk
    rw [List.length_map]
    exact z
  refine Rd.lc_keepG wk (fun i => g (fs.getD i l0A).2) (fun i => V.ref (fs.getD i l0A).1) hD (by unfold tmk; rw [List.length_map]; omega) hG (fun i x H H' B hi ea y hB => ?_) (fun H e h => hd H e (by rw [h, keep]))
  obtain ⟨rfl, hx⟩ := y
  unfold tmk at hx
  rw [List.getElem?_map] at hx
  cases hu : fs[i]? with
  | none => rw [hu] at hx; exact nomatch hx
  | some u =>
    rw [hu] at hx
    cases hx
    have eu : fs.getD i l0A = u := by rw [List.getD_eq_getElem?_getD, hu]; rfl
    rw [eu] at hB
    exact hs u (List.mem_of_getElem? hu) _ B ea hB
/-- != of two rows that are the same -/
theorem neT_same {K : PySem.W.Frag} {H : Hp} {p q : Addr} {l m : List Str} {Q : VK} (hp : H p = some (.tup (l.map V.str))) (hq : H q = some (.tup (m.map V.str))) (ok : ∀ k ∈ l, nameB k = true) (e : l = m) (k : Q (.bl false) H) : rNeD K (.ref p) (.ref q) H Q := by
  subst e
  refine ⟨_, _, .tup (SqT.of hp) (dp_strsT l), .tup (SqT.of hq) (dp_strsT l), shaped_tup ok, shaped_tup ok, ?_⟩
  have ee : PyData.eqv (.tuple (l.map PyData.str)) (.tuple (l.map PyData.str)) = true := by simp [PyData.eqv, eqvAll_strs]
  rw [ee]
  exact k
theorem neP_same {K : PySem.W.Frag} {H : Hp} {p q : Addr} {l m : TL} {Q : VK} (hp : H p = some (.tup (rf l))) (hq : H q = some (.tup (rf m))) (tl : TA H l) (tm : TA H m) (ok : ∀ u ∈ l.map (·.2), okP u) (e : l.map (·.2) = m.map (·.2)) (k : Q (.bl false) H) : rNeD K (.ref p) (.ref q) H Q := by
  refine ⟨_, _, .tup (SqT.of hp) (dp_pairs tl), .tup (SqT.of hq) (dp_pairs tm), shaped_pairsT ok, shaped_pairsT (by rw [← e]; exact ok), ?_⟩
  have ee : PyData.eqv (.tuple ((l.map (·.2)).map pairD)) (.tuple ((m.map (·.2)).map pairD)) = true := by
    rw [e]
    generalize m.map (·.2) = ms
    simp [PyData.eqv, eqvAll_pairs]
  rw [ee]
  exact k
end OwW


namespace OwW
open PySem PyProof.Rows L2 L2H OwX Rd Evl OwAn
abbrev sTR : Stmt := top 63
abbrev NTR : List Str := ["_law_plain_here", "_law_tree_here", "_law_web_here", "_law_off", "_law_a", "_law_b", "_law_new", "_law_out", "_law_lots_here", "_law_cut", "_law_place", "_law_due", "_law_row", "_law_fits", "_law_tie_here", "_law_lot"]
def spTR : Sp := fun vs H Q _ => ∃ (d p : Addr) (ks : List Str) (ys zs : TL), vs = [.ref d, .ref p] ∧ PlTree H d p ks ys zs ∧ ∀ H', Ex H H' → Q (.bl true) H'
/-- what tree_right calls -/
structure CqT (P : Program) (w : World) (K : PySem.W.Frag) (mg : Str → Option Value) (base : Heap) (CW : Addr) where
  made : Cl P w K mg base 8 "_law_made" ["_law_plain_here"] (spMade CW)
  wayin : Cl P w K mg base 7 "way_in" ["web", "tree", "a", "b"] (spWayIn CW)
  lway : Cl P w K mg base 2 "_law_way" ["_law_plain_here", "_law_tree_here", "_law_a", "_law_b"] spLWay
  ringc : Cl P w K mg base 7 "ring_closed" ["web", "tree", "tie"] (spRingC CW)
  ringf : Cl P w K mg base 2 "_law_ring_form" ["_law_places"] spRingF
  lots : Cl P w K mg base 1 "_law_lots" ["_law_plain_here", "_law_gone"] spLots
  acr : Cl P w K mg base 1 "_law_across" ["_law_plain_here", "_law_places"] (spLKeep acrossB)
  cutc : Cl P w K mg base 6 "cut_closed" ["web", "tree", "tie"] (spCutC CW)
  sideof : Cl P w K mg base 5 "side_of" ["web", "tree", "tie", "place"] (spSideOf CW)
  ijt : Cl P w K mg base 3 "is_joining_tree" ["web", "value"] (spIJT CW)
  told : Cl P w K mg base 6 "_law_told" ["_law_web_here", "_law_tree_here", "_law_out", "_law_new"] (spTold CW)
theorem turn_mem {l : List Str} {k : Nat} {y : Str} (h : y ∈ turnL (rotL l k)) : y ∈ l := by
  have r : ∀ z, z ∈ rotL l k → z ∈ l := fun z hz => by
    unfold rotL at hz
    rcases List.mem_append.mp hz with e | e
    · exact List.mem_of_mem_drop e
    · exact List.mem_of_mem_take e
  unfold turnL at h
  split at h
  · exact r y h
  · rcases List.mem_append.mp h with e | e
    · exact r y (List.mem_of_mem_take e)
    · exact r y (List.mem_of_mem_drop (List.mem_reverse.mp e))
theorem both_in {K : PySem.W.Frag} {σ : L2.St} {H : Hp} {Q : VK} {o rw : Addr} {a b : Str} {row : List Str} (h7 : σ[7]? = some (some (.ref o))) (h12 : σ[12]? = some (some (.ref rw))) (ho : H o = some (.tup [.str a, .str b])) (hr : H rw = some (.lst (row.map V.str))) (q : Q (.bl (decide (a ∈ row) && decide (b ∈ row))) H) :
    tAndV (tOp (rIn K false) (tOp (rIxT K) (tVar 7) (tC (V.int 0))) (tVar 12)) (tOp (rIn K false) (tOp (rIxT K) (tVar 7) (tC (V.int 1))) (tVar 12)) σ H Q := by
  have f : ∀ s : Str, (if false = true then !inV (.str s) (row.map V.str) else inV (.str s) (row.map V.str)) = decide (s ∈ row) := fun s => by rw [if_neg (by decide), inV_strs]
  refine Rd.andv ?_
  refine ⟨_, h7, ?_⟩
  walk_at "rd"
  refine Rd.ixt (i := 0) (v := .str a) (SqT.of ho) rfl ?_
  refine ⟨_, h12, ?_⟩
  refine ⟨rw, _, rfl, .inl (SqL.of hr), rfl, flat_strs row, ?_⟩
  rw [f]
  refine ⟨_, rfl, ?_⟩
  by_cases c : a ∈ row
  · rw [decide_eq_true c] at q ⊢
    rw [Bool.true_and] at q
    rw [if_pos rfl]
    refine ⟨_, h7, ?_⟩
    walk_at "rd"
    refine Rd.ixt (i := 1) (v := .str b) (SqT.of ho) rfl ?_
    refine ⟨_, h12, ?_⟩
    refine ⟨rw, _, rfl, .inl (SqL.of hr), rfl, flat_strs row, ?_⟩
    rw [f]
    exact q
  · rw [decide_eq_false c] at q ⊢
    rw [Bool.false_and] at q
    rw [if_neg (by decide)]
    exact q
section
variable {P : Program} {w : World} {K : PySem.W.Frag} {mg : Str → Option Value} {base : Heap}
theorem scTR : FnScope NTR ["_law_plain_here", "_law_tree_here"] (defScope sTR) := ⟨rfl, rfl, rfl, by decide +kernel, rfl, by decide +kernel, by decide +kernel⟩
theorem ok_tr {f CW : Addr} {fd : FuncData} (F : Fun K "_law_tree_right" "_law_tree_right" sTR f fd) (c : CqT P w K mg base CW) (T : BltM mg) : FnOk P w K mg base CX0 9 f fd ["_law_plain_here", "_law_tree_here"] spTR := by
  have nd := scTR.nd
  refine F.ok scTR (fun vs H Q E h => ?_) (fun cdv A outer s H vs Q E hr h => ⟨_, (pss_cons (ps_par (i := 2) (j := 3) rfl nd rfl rfl (by decide) rfl rfl (pa_cons (pe_call c.made.ok (hr.mono (by decide)) (by rfl) c.made.gl c.made.kp c.made.bd .nil pass0 (pa_cons (pv 0) pa_nil)) (pa_cons (pe_lc (own := [("_law_tie_here", 14)]) (g := gName 14) (tt := tTest (tOp (rInTs true) (tVar 14) (tVar 1))) rfl nd (pi_list (pe_dget (units1 hr) (pv 0) pe_str (fun _ _ => rfl))) (blkOk_by (own := [("_law_tie_here", 14)]) (N := NTR) (sc := defScope sTR) (by decide +kernel)) (fun _ _ _ _ _ => (pg_name (i := 14) nd rfl (Or.inl rfl))) (fun _ _ _ _ _ => (pts_one (pt_cmpR (op_ninTs (units65 hr)) (pv 14) (pv 1) (by with_unfolding_all rfl)))) (fun _ _ _ _ _ => (pv 14))) pa_nil)) rfl)
    (pss_cons (ps_for PassesOwn.never rfl (pi_list (pe_dget (units1 hr) (pv 0) pe_str (fun _ _ => rfl))) (pg_name (i := 4) nd rfl (Or.inl rfl)) (pss_one (ps_for PassesOwn.never rfl (pi_list (pe_dget (units1 hr) (pv 0) pe_str (fun _ _ => rfl))) (pg_name (i := 5) nd rfl (Or.inl rfl)) (pss_one (ps_if (pt_cmpR (op_neD hr.units) (pe_call c.wayin.ok (hr.mono (by decide)) (by rfl) c.wayin.gl c.wayin.kp c.wayin.bd .nil pass0 (pa_cons (pv 2) (pa_cons (pv 1) (pa_cons (pv 4) (pa_cons (pv 5) pa_nil))))) (pe_callTy call_tuple_of (by rfl) T.tuple (by decide +kernel) (pa_cons (pe_call c.lway.ok (hr.mono (by decide)) (by rfl) c.lway.gl c.lway.kp c.lway.bd .nil pass0 (pa_cons (pv 0) (pa_cons (pv 1) (pa_cons (pv 4) (pa_cons (pv 5) pa_nil))))) pa_nil)) (nomark _)) (pss_one (ps_ret pe_bl)) pss_nil)))))
    (pss_cons (ps_for PassesOwn.never rfl (pi_list (pv 3)) (pg_name (i := 6) nd rfl (Or.inl rfl)) (pss_one (ps_if (pt_cmpR (op_neD hr.units) (pe_call c.ringc.ok (hr.mono (by decide)) (by rfl) c.ringc.gl c.ringc.kp c.ringc.bd .nil pass0 (pa_cons (pv 2) (pa_cons (pv 1) (pa_cons (pv 6) pa_nil)))) (pe_call c.ringf.ok (hr.mono (by decide)) (by rfl) c.ringf.gl c.ringf.kp c.ringf.bd .nil pass0 (pa_cons (pe_call c.lway.ok (hr.mono (by decide)) (by rfl) c.lway.gl c.lway.kp c.lway.bd .nil pass0 (pa_cons (pv 0) (pa_cons (pv 1) (pa_cons (pe_ix ix_tup (pv 6) pe_int (fun _ _ => rfl)) (pa_cons (pe_ix ix_tup (pv 6) pe_int (fun _ _ => rfl)) pa_nil))))) pa_nil)) (nomark _)) (pss_one (ps_ret pe_bl)) pss_nil)))
    (pss_cons (ps_for PassesOwn.never rfl (pi_tup (pv 1)) (pg_name (i := 7) nd rfl (Or.inr rfl)) (pss_cons (ps_set (i := 8) nd rfl (Or.inl rfl) (pe_call c.lots.ok (hr.mono (by decide)) (by rfl) c.lots.gl c.lots.kp c.lots.bd .nil pass0 (pa_cons (pe_disp (pps_cons pe_str (pe_dget (units1 hr) (pv 0) pe_str (fun _ _ => rfl)) (pps_cons pe_str (pe_lc (own := [("_law_tie_here", 14)]) (g := gName 14) (tt := tTest (tOp (rNeD K) (tVar 14) (tVar 7))) rfl nd (pi_tup (pv 1)) (blkOk_by (own := [("_law_tie_here", 14)]) (N := NTR) (sc := defScope sTR) (by decide +kernel)) (fun _ _ _ _ _ => (pg_name (i := 14) nd rfl (Or.inl rfl))) (fun _ _ _ _ _ => (pts_one (pt_cmpR (op_neD hr.units) (pv 14) (pv 7) (nomark _)))) (fun _ _ _ _ _ => (pv 14))) pps_nil)) (by rfl) (by rfl) (fun z => by cases z) (by decide)) (pa_cons (pe_tup pa_nil) pa_nil))))
    (pss_cons (ps_set (i := 9) nd rfl (Or.inl rfl) (pe_call c.acr.ok (hr.mono (by decide)) (by rfl) c.acr.gl c.acr.kp c.acr.bd .nil pass0 (pa_cons (pv 0) (pa_cons (pe_ix ix_list (pv 8) pe_int (fun _ _ => rfl)) pa_nil))))
    (pss_cons (ps_if (pt_cmpR (op_neD hr.units) (pe_call c.cutc.ok (hr.mono (by decide)) (by rfl) c.cutc.gl c.cutc.kp c.cutc.bd .nil pass0 (pa_cons (pv 2) (pa_cons (pv 1) (pa_cons (pv 7) pa_nil)))) (pe_callTy call_tuple_of (by rfl) T.tuple (by decide +kernel) (pa_cons (pv 9) pa_nil)) (nomark _)) (pss_one (ps_ret pe_bl)) pss_nil)
    (pss_cons (ps_for PassesOwn.never rfl (pi_list (pe_dget (units1 hr) (pv 0) pe_str (fun _ _ => rfl))) (pg_name (i := 10) nd rfl (Or.inr rfl)) (pss_one (ps_if (pt_cmpR (op_neD hr.units) (pe_call c.sideof.ok (hr.mono (by decide)) (by rfl) c.sideof.gl c.sideof.kp c.sideof.bd .nil pass0 (pa_cons (pv 2) (pa_cons (pv 1) (pa_cons (pv 7) (pa_cons (pv 10) pa_nil))))) (pe_ix ix_list (pe_lc (own := [("_law_lot", 15)]) (g := gName 15) (tt := tTest (tOp (rIn K false) (tVar 10) (tVar 15))) rfl nd (pi_list (pv 8)) (blkOk_by (own := [("_law_lot", 15)]) (N := NTR) (sc := defScope sTR) (by decide +kernel)) (fun _ _ _ _ _ => (pg_name (i := 15) nd rfl (Or.inl rfl))) (fun _ _ _ _ _ => (pts_one (pt_cmpR op_in_seq (pv 10) (pv 15) (by with_unfolding_all rfl)))) (fun _ _ _ _ _ => (pv 15))) pe_int (fun _ _ => rfl)) (nomark _)) (pss_one (ps_ret pe_bl)) pss_nil)))
    (pss_one (ps_for PassesOwn.never rfl (pi_list (pv 3)) (pg_name (i := 6) nd rfl (Or.inl rfl)) (pss_cons (ps_set (i := 11) nd rfl (Or.inl rfl) (pe_callTy call_tuple_of (by rfl) T.tuple (by decide +kernel) (pa_cons (pe_callB (OwP.cr_sortTp hr.units) (by rfl) T.sorted (by decide +kernel) (pa_cons (pe_op op_cat (pe_lc (own := [("_law_tie_here", 14)]) (g := gName 14) (tt := tTest (tOp (rNeD K) (tVar 14) (tVar 7))) rfl nd (pi_tup (pv 1)) (blkOk_by (own := [("_law_tie_here", 14)]) (N := NTR) (sc := defScope sTR) (by decide +kernel)) (fun _ _ _ _ _ => (pg_name (i := 14) nd rfl (Or.inl rfl))) (fun _ _ _ _ _ => (pts_one (pt_cmpR (op_neD hr.units) (pv 14) (pv 7) (nomark _)))) (fun _ _ _ _ _ => (pv 14))) (pe_lst (pa_cons (pv 6) pa_nil))) pa_nil)) pa_nil)))
    (pss_cons (ps_set (i := 12) nd rfl (Or.inl rfl) (pe_call c.lway.ok (hr.mono (by decide)) (by rfl) c.lway.gl c.lway.kp c.lway.bd .nil pass0 (pa_cons (pv 0) (pa_cons (pv 1) (pa_cons (pe_ix ix_tup (pv 6) pe_int (fun _ _ => rfl)) (pa_cons (pe_ix ix_tup (pv 6) pe_int (fun _ _ => rfl)) pa_nil))))))
    (pss_cons (ps_set (i := 13) nd rfl (Or.inl rfl) (pe_cmpR (op_inTs (units65 hr)) (pv 6) (pv 9) (by with_unfolding_all rfl)))
    (pss_cons (ps_if ((pw_or (pt_cmpR op_ne (pe_and (pe_cmpR op_in_seq (pe_ix ix_tup (pv 7) pe_int (fun _ _ => rfl)) (pv 12) (by with_unfolding_all rfl)) (pe_one (pe_cmpR op_in_seq (pe_ix ix_tup (pv 7) pe_int (fun _ _ => rfl)) (pv 12) (by with_unfolding_all rfl)))) (pv 13) (nomark _)) (pw_or1 (pt_cmpR op_ne (pe_call c.ijt.ok (hr.mono (by decide)) (by rfl) c.ijt.gl c.ijt.kp c.ijt.bd .nil pass0 (pa_cons (pv 2) (pa_cons (pv 11) pa_nil))) (pv 13) (nomark _))))).pt (pss_one (ps_ret pe_bl)) pss_nil)
    (pss_one (ps_if (pt_cmpR (op_neD hr.units) (pe_call c.told.ok (hr.mono (by decide)) (by rfl) c.told.gl c.told.kp c.told.bd .nil pass0 (pa_cons (pv 2) (pa_cons (pv 1) (pa_cons (pv 7) (pa_cons (pv 6) pa_nil))))) (pe_ifExp (pt_val (pv 13) (fun _ => rfl)) (pv 11) pe_non) (nomark _)) (pss_one (ps_ret pe_bl)) pss_nil)))))))))))))
    (pss_one (ps_ret pe_bl)))))), ?_⟩)
  · obtain ⟨d, p, ks, ys, zs, rfl, _⟩ := h
    rfl
  · obtain ⟨d, p, ks, ys, zs, rfl, t, k⟩ := h
    have ok := t.ok
    have n9 := ok.nine
    have fwy := ok.few
    rw [List.length_map] at fwy
    have TO := t.tr.tree ok
    have okz : ∀ u ∈ zs.map (·.2), okP u := fun u hu => ok.okP u (t.tr.sub u hu)
    have few : zs.length ≤ 8 := by
      have z := t.tr.len
      rw [List.length_map] at z
      omega
    rw [show L2.start NTR [V.ref d, V.ref p] = [some (.ref d), some (.ref p), none, none, none, none, none, none, none, none, none, none, none, none, none, none] from rfl]
    walk_at "rd"
    refine Rd.par2 ?_
    walk_at "rd"
    refine ⟨d, ks, ys, rfl, t.pl, ok, fun W H1 e1 iw _ => ?_⟩
    walk_at "rd"
    refine Rd.lcm' ?_
    unfold iList tDGet
    walk_at "rd"
    have t1 := t.ex e1
    obtain ⟨⟨kp, tp, h1, h2, h3⟩, tay⟩ := t1.pl
    refine ⟨d, _, rfl, (pl_get h1).2, tp, rfl, ⟨_, SqL.of h3⟩, fun O hO => ?_⟩
    refine lc_ties (walk_list (xs := rf ys)) (fun u => !decide (u ∈ zs.map (·.2))) hO (by omega) (fun H' e => ex_l e (SqL.of h3)) (fun u hu Ha B ea hB => ?_) (fun H2 e2 o2 => ?_)
    · show _ ∧ _
      refine ⟨rfl, ?_⟩
      walk_at "rd"
      refine inTs_of (t := u.2) (tay.ex ea u hu) (.inr (ea _ _ t1.at_)) (t1.ta.ex ea) (ok.okP u.2 (List.mem_map.mpr ⟨u, hu, rfl⟩)) okz ?_
      rw [if_pos rfl]
      refine ⟨_, rfl, ?_⟩
      refine hB _ _ (Ex.refl _) fun _ R hR => ?_
      walk_at "rd"
      exact hR _ (Ex.refl _)
    · generalize hof : (ys.filter fun u => !decide (u.2 ∈ zs.map (·.2))) = off at o2
      have offm : ∀ v ∈ off, v ∈ ys ∧ ¬ v.2 ∈ zs.map (·.2) := fun v hv => by
        rw [← hof] at hv
        obtain ⟨a, b⟩ := List.mem_filter.mp hv
        exact ⟨a, by simpa using b⟩
      have offl : off.length ≤ 18 := by
        rw [← hof]
        exact Nat.le_trans (List.length_filter_le _ _) fwy
      have E2 := e1.trans e2
      have t2 := t.ex E2
      have tw : TreeAt CW H2 W p ks ys zs := ⟨iw.ex e2, t2.at_, t2.ta, t.tr⟩
      have h1' := e2 _ _ h1
      have h2' := e2 _ _ h2
      have h3' := e2 _ _ h3
      clear h1 h2 h3 t1 tay e1 e2 iw hO
      walk_at "rd"
      refine ⟨_, _, rfl, ?_⟩
      dsimp only [List.set_cons_succ, List.set_cons_zero]
      walk_at "rd"
      with_reducible refine Rd.for' ?_
      refine ⟨_, rfl, d, _, rfl, (pl_get h1').1, kp, rfl, ⟨_, SqL.of h2'⟩, ?_⟩
      refine for_it (walk_list (xs := ks.map V.str)) (fun i σ H' => ∃ x4 x5 : Option V, σ = [some (.ref d), some (.ref p), some (.ref W), some (.ref O), x4, x5, none, none, none, none, none, none, none, none, none, none] ∧ Ex H2 H') ⟨_, _, rfl, Ex.refl _⟩ (fun i σ H' _ hP => ?_) (fun i z σ Ha Hb hi hP hY => ?_) (fun σ Ha hP => ?_)
      · obtain ⟨_, _, rfl, ea⟩ := hP
        exact ex_l ea (SqL.of h2')
      · obtain ⟨x4, x5, rfl, ea⟩ := hP
        obtain ⟨rfl, hz⟩ := hY
        rw [List.getElem?_map] at hz
        obtain ⟨a, ha, rfl⟩ := Option.map_eq_some_iff.mp hz
        have ak := List.mem_of_getElem? ha
        walk_at "rd"
        dsimp only [List.set_cons_succ, List.set_cons_zero]
        with_reducible refine Rd.for' ?_
        refine ⟨_, rfl, d, _, rfl, (pl_get (ea _ _ h1')).1, kp, rfl, ⟨_, SqL.of (ea _ _ h2')⟩, ?_⟩
        refine for_it (walk_list (xs := ks.map V.str)) (fun i σ H' => ∃ x5 : Option V, σ = [some (.ref d), some (.ref p), some (.ref W), some (.ref O), some (.str a), x5, none, none, none, none, none, none, none, none, none, none] ∧ Ex H2 H') ⟨_, rfl, ea⟩ (fun i σ H' _ hP => ?_) (fun i z σ Hc Hd hi hP hY => ?_) (fun σ Hc hP => ?_)
        · obtain ⟨_, rfl, ec⟩ := hP
          exact ex_l ec (SqL.of h2')
        · obtain ⟨x5, rfl, ec⟩ := hP
          obtain ⟨rfl, hz⟩ := hY
          rw [List.getElem?_map] at hz
          obtain ⟨b, hb, rfl⟩ := Option.map_eq_some_iff.mp hz
          have bk := List.mem_of_getElem? hb
          walk_at "rd"
          dsimp only [List.set_cons_succ, List.set_cons_zero]
          walk_at "rd"
          refine ⟨W, p, a, b, ks, ys, zs, rfl, tw.ex ec, ak, bk, fun q H5 l e5 wy hq => ?_⟩
          walk_at "rd"
          refine ⟨d, p, a, b, ks, ys, zs, rfl, t2.ex (ec.trans e5), ak, bk, fun q2 H6 l2 e6 wy2 hq2 => ?_⟩
          walk_at "rd"
          refine ⟨q2, _, rfl, .inl ⟨SqL.of hq2, fun T1 hT1 => ?_⟩⟩
          have ll : l = l2 := wy.way.uniq ok.knd TO wy2.way
          have lk := (wy.facts ok.knd TO bk).2.2.2
          refine neT_same ((e6.trans (Ex.new hT1)) _ _ hq) upd_same (fun y hy => ok.names y (lk y hy)) ll ⟨_, rfl, ?_⟩
          refine Rd.iteF (by decide) ?_
          exact ⟨_, rfl, ((ec.trans e5).trans e6).trans (Ex.new hT1)⟩
        · obtain ⟨x5, rfl, ec⟩ := hP
          exact ⟨_, _, rfl, ec⟩
      · obtain ⟨x4, x5, rfl, ea⟩ := hP
        walk_at "rd"
        with_reducible refine Rd.for' ?_
        refine ⟨_, rfl, O, rfl, ⟨_, SqL.of (ea _ _ o2)⟩, ?_⟩
        refine for_it (walk_list (xs := rf off)) (fun i σ H' => ∃ x6 : Option V, σ = [some (.ref d), some (.ref p), some (.ref W), some (.ref O), x4, x5, x6, none, none, none, none, none, none, none, none, none] ∧ Ex H2 H') ⟨_, rfl, ea⟩ (fun i σ H' _ hP => ?_) (fun i z σ Hc Hd hi hP hY => ?_) (fun σ Hc hP => ?_)
        · obtain ⟨_, rfl, ec⟩ := hP
          exact ex_l ec (SqL.of o2)
        · obtain ⟨x6, rfl, ec⟩ := hP
          obtain ⟨rfl, hz⟩ := hY
          rw [List.getElem?_map] at hz
          obtain ⟨v, hv, rfl⟩ := Option.map_eq_some_iff.mp hz
          obtain ⟨vy, vn⟩ := offm v (List.mem_of_getElem? hv)
          have vt : v.2 ∈ ys.map (·.2) := List.mem_map.mpr ⟨v, vy, rfl⟩
          obtain ⟨v1, v2, vl⟩ := ok.ends v.2 vt
          have hvp : ∀ {H'}, Ex H2 H' → PairAt H' v.1 v.2 := fun e => t2.pl.ta.ex e v vy
          walk_at "rd"
          dsimp only [List.set_cons_succ, List.set_cons_zero]
          walk_at "rd"
          refine ⟨W, p, v.1, v.2, ks, ys, zs, rfl, tw.ex ec, hvp ec, vt, vn, fun q H5 l k1 e5 wy m1 hq => ?_⟩
          have e25 := ec.trans e5
          walk_at "rd"
          refine Rd.ixt (i := 0) (v := .str v.2.1) (SqT.of (hvp e25)) rfl ?_
          walk_at "rd"
          refine Rd.ixt (i := 1) (v := .str v.2.2) (SqT.of (hvp e25)) rfl ?_
          walk_at "rd"
          refine ⟨d, p, v.2.1, v.2.2, ks, ys, zs, rfl, t2.ex e25, v1, v2, fun q2 H6 l2 e6 wy2 hq2 => ?_⟩
          have ll : l = l2 := wy.way.uniq ok.knd TO wy2.way
          subst ll
          obtain ⟨lnd, l9, l1, lk⟩ := wy.facts ok.knd TO v2
          have l3 := wy.three (fun a => a.elim vn fun z => by
            have y := (ok.ends _ (t.tr.sub _ z)).2.2
            rw [lt_asym vl] at y
            exact nomatch y) (ok.tne v.2 vt)
          walk_at "rd"
          refine ⟨q2, l, rfl, hq2, lnd, l3, by omega, fun q3 H7 k2 e7 m2 hq3 => ?_⟩
          have ek : k1 = k2 := m1.uniq lnd m2
          subst ek
          have rn : ∀ y ∈ turnL (rotL l k1), nameB y = true := fun y hy => ok.names y (lk y (turn_mem hy))
          refine neT_same ((e6.trans e7) _ _ hq) hq3 rn rfl ⟨_, rfl, ?_⟩
          refine Rd.iteF (by decide) ?_
          exact ⟨_, rfl, (e25.trans e6).trans e7⟩
        · obtain ⟨x6, rfl, ec⟩ := hP
          walk_at "rd"
          with_reducible refine Rd.for' ?_
          refine ⟨_, rfl, p, rfl, ⟨_, SqT.of (ec _ _ t2.at_)⟩, ?_⟩
          refine for_it (walk_tup (xs := rf zs)) (fun i σ H' => ∃ x6 x7 x8 x9 x10 x11 x12 x13 : Option V, σ = [some (.ref d), some (.ref p), some (.ref W), some (.ref O), x4, x5, x6, x7, x8, x9, x10, x11, x12, x13, none, none] ∧ Ex H2 H') ⟨_, _, _, _, _, _, _, _, rfl, ec⟩ (fun i σ H' _ hP => ?_) (fun i z σ He Hf hi hP hY => ?_) (fun σ He hP => ?_)
          · obtain ⟨_, _, _, _, _, _, _, _, rfl, ee⟩ := hP
            exact SqT.of (ee _ _ t2.at_)
          · obtain ⟨x6, x7, x8, x9, x10, x11, x12, x13, rfl, ee⟩ := hP
            obtain ⟨rfl, hz⟩ := hY
            rw [List.getElem?_map] at hz
            obtain ⟨u, hu, rfl⟩ := Option.map_eq_some_iff.mp hz
            have uz := List.mem_of_getElem? hu
            have ut : u.2 ∈ zs.map (·.2) := List.mem_map.mpr ⟨u, uz, rfl⟩
            obtain ⟨u1, u2⟩ := TO.sub u.2 ut
            have hup : ∀ {H'}, Ex H2 H' → PairAt H' u.1 u.2 := fun e => t2.ta.ex e u uz
            walk_at "rd"
            dsimp only [List.set_cons_succ, List.set_cons_zero]
            walk_at "rd"
            unfold tDisp
            intro db hdb
            have e1 : Ex Hf (upd Hf db (.dK [])) := Ex.new hdb
            have b1 : (upd Hf db (.dK [])) db = some (.dK []) := upd_same
            generalize upd Hf db (.dK []) = Hg at e1 b1 ⊢
            unfold tPairs
            walk_at "rd"
            have eg := ee.trans e1
            refine ⟨d, _, rfl, (pl_get (eg _ _ h1')).1, ?_⟩
            unfold tPairs
            walk_at "rd"
            refine Rd.lcm' ?_
            refine ⟨_, rfl, p, rfl, ⟨_, SqT.of (eg _ _ t2.at_)⟩, fun D hD => ?_⟩
            refine lc_ties (walk_tup (xs := rf zs)) (fun t => !decide (t = u.2)) hD (by omega) (fun H' e => ex_t e (SqT.of (eg _ _ t2.at_))) (fun v hv Hx B ea hB => ?_) (fun H4 e4 l4 => ?_)
            · show _ ∧ _
              refine ⟨rfl, ?_⟩
              walk_at "rd"
              refine nePr_of (t2.ta.ex (eg.trans ea) v hv) (hup (eg.trans ea)) (okz v.2 (List.mem_map.mpr ⟨v, hv, rfl⟩)) (okz u.2 ut) ⟨_, rfl, ?_⟩
              refine hB _ _ (Ex.refl _) fun _ R hR => ?_
              walk_at "rd"
              exact hR _ (Ex.refl _)
            have hbm := but_tl zs u.2
            have hbs : ∀ v ∈ zs.filter fun t => !decide (t.2 = u.2), v ∈ zs := fun v hv => (List.mem_filter.mp hv).1
            have hbl : (zs.filter fun t => !decide (t.2 = u.2)).length ≤ 8 := Nat.le_trans (List.length_filter_le _ _) few
            generalize hbz : (zs.filter fun t => !decide (t.2 = u.2)) = bz at l4 hbm hbs hbl
            unfold tPairs
            have b4 := e4 _ _ b1
            refine ⟨b4, [(Sum.inr "places", .ref kp), (Sum.inr "ties", .ref D)], rfl, by simp, ?_⟩
            have e5 : Ex H2 (upd H4 db (.dK (mergeK [] [(Sum.inr "places", .ref kp), (Sum.inr "ties", .ref D)]))) := (eg.trans e4).mut (ex_none ee hdb)
            have nD : D ≠ db := fun e => by
              rw [e, b4] at l4
              exact nomatch l4
            have nkp : kp ≠ db := fun e => by
              have z := (eg.trans e4) _ _ h2'
              rw [e, b4] at z
              exact nomatch z
            have pl5 : PlainAt (upd H4 db (.dK (mergeK [] [(Sum.inr "places", .ref kp), (Sum.inr "ties", .ref D)]))) db ks bz := ⟨⟨kp, D, upd_same, (upd_ne nkp).trans ((eg.trans e4) _ _ h2'), (upd_ne nD).trans l4⟩, fun v hv => t2.ta.ex e5 v (hbs v hv)⟩
            show tCons (tTup tNil) tNil _ (upd H4 db (.dK (mergeK [] [(Sum.inr "places", .ref kp), (Sum.inr "ties", .ref D)]))) _
            generalize upd H4 db (.dK (mergeK [] [(Sum.inr "places", .ref kp), (Sum.inr "ties", .ref D)])) = H5 at e5 pl5 ⊢
            clear b4 l4 nD nkp e4
            walk_at "rd"
            refine ⟨small64 (n := 0) (by decide), fun g0 hg0 => ?_⟩
            have e6 := e5.trans (Ex.new (o := .tup []) hg0)
            have pl6 := pl5.ex (Ex.new (o := .tup []) hg0)
            have g6 : (upd H5 g0 (.tup [])) g0 = some (.tup []) := upd_same
            generalize upd H5 g0 (.tup []) = H6 at e6 pl6 g6 ⊢
            have bsub : ∀ t ∈ bz.map (·.2), t.1 ∈ ks ∧ t.2 ∈ ks := fun t ht => by
              obtain ⟨v, hv, rfl⟩ := List.mem_map.mp ht
              exact TO.sub _ (List.mem_map.mpr ⟨v, hbs v hv, rfl⟩)
            have k2 := ok.two
            refine ⟨db, g0, ks, bz, rfl, pl6, g6, ok.names, ok.knd, by omega, by omega, by omega, bsub, fun lo H7 fs e7 hlo tps fl LO => ?_⟩
            rw [hbm] at LO
            have E7 := e6.trans e7
            have lotS : ∀ (l : List Str), SideOf (zs.map (·.2)) u.2 l → ∀ q ∈ fs, (∀ y ∈ ks, (y ∈ q.2 ↔ y ∈ l)) ∨ (∀ y ∈ ks, (y ∈ q.2 ↔ ¬ y ∈ l)) := fun l hl q hq => lot_side ok.knd TO ut hl (LO.ok q hq) (LO.sub q hq)
            have yk : ∀ v ∈ ys.map (·.2), v.1 ∈ ks ∧ v.2 ∈ ks := fun v hv => ⟨(ok.ends v hv).1, (ok.ends v hv).2.1⟩
            obtain ⟨f0, fr, rfl⟩ : ∃ f0 fr, fs = f0 :: fr := by
              obtain ⟨q, hq, _⟩ := LO.all u.2.1 u1
              cases fs with
              | nil => exact nomatch hq
              | cons f0 fr => exact ⟨f0, fr, rfl⟩
            walk_at "rd"
            dsimp only [List.set_cons_succ, List.set_cons_zero]
            walk_at "rd"
            refine Rd.ixl (i := 0) (v := .ref f0.1) (SqL.of hlo) (atI_nat (xs := tmk (f0 :: fr)) (j := 0) rfl) ?_
            walk_at "rd"
            refine ⟨d, f0.1, ks, f0.2, ys, rfl, t2.pl.ex E7, fwy, tps f0 List.mem_cons_self, fun cu H8 e8 hcu tcu => ?_⟩
            have hcm : ∀ v ∈ ys.filter fun t => acrossB f0.2 t.2, v ∈ ys ∧ acrossB f0.2 v.2 = true := fun v hv => List.mem_filter.mp hv
            have hcf : (ys.filter fun t => acrossB f0.2 t.2).map (·.2) = (ys.map (·.2)).filter (acrossB f0.2) := by
              rw [List.filter_map]
              rfl
            generalize hcz : (ys.filter fun t => acrossB f0.2 t.2) = cz at hcu tcu hcm hcf
            have E8 := E7.trans e8
            walk_at "rd"
            dsimp only [List.set_cons_succ, List.set_cons_zero]
            walk_at "rd"
            refine ⟨W, p, u.1, u.2, ks, ys, zs, rfl, tw.ex E8, hup E8, ut, fun cq H9 l cs e9 lm hcq tcs mc => ?_⟩
            have same : ∀ v ∈ ys.map (·.2), acrossB f0.2 v = acrossB l v := fun v hv => acr_same (lotS l lm f0 List.mem_cons_self) (yk v hv)
            have E9 := E8.trans e9
            walk_at "rd"
            refine ⟨cu, _, rfl, .inl ⟨SqL.of (e9 _ _ hcu), fun tq htq => ?_⟩⟩
            have e10 : Ex H9 (upd H9 tq (.tup (rf cz))) := Ex.new htq
            have hfl : cs.map (·.2) = cz.map (·.2) := by
              rw [mc, hcf]
              exact (List.filter_congr same).symm
            refine neP_same (e10 _ _ hcq) upd_same (tcs.ex e10) (tcu.ex (e9.trans e10)) (fun v hv => ?_) hfl ⟨_, rfl, ?_⟩
            · rw [mc] at hv
              exact ok.okP v (List.mem_filter.mp hv).1
            refine Rd.iteF (by decide) ?_
            have E10 := E9.trans e10
            have hlo10 := (e8.trans (e9.trans e10)) _ _ hlo
            have tps10 : ∀ q ∈ f0 :: fr, (upd H9 tq (.tup (rf cz))) q.1 = some (.tup (q.2.map V.str)) := fun q hq => (e8.trans (e9.trans e10)) _ _ (tps q hq)
            have hcu10 := (e9.trans e10) _ _ hcu
            have tcu10 := tcu.ex (e9.trans e10)
            generalize upd H9 tq (.tup (rf cz)) = H10 at E10 hlo10 tps10 hcu10 tcu10 ⊢
            clear e10 E9 htq
            walk_at "rd"
            with_reducible refine Rd.for' ?_
            refine ⟨_, rfl, d, _, rfl, (pl_get (E10 _ _ h1')).1, kp, rfl, ⟨_, SqL.of (E10 _ _ h2')⟩, ?_⟩
            refine for_it (walk_list (xs := ks.map V.str)) (fun i σ H' => ∃ x10 : Option V, σ = [some (.ref d), some (.ref p), some (.ref W), some (.ref O), x4, x5, x6, some (.ref u.1), some (.ref lo), some (.ref cu), x10, x11, x12, x13, none, none] ∧ Ex H10 H') ⟨_, rfl, Ex.refl _⟩ (fun i σ H' _ hP => ?_) (fun i z σ Hh Hi hi hP hY => ?_) (fun σ Hh hP => ?_)
            · obtain ⟨_, rfl, ei⟩ := hP
              exact ex_l (E10.trans ei) (SqL.of h2')
            · obtain ⟨x10, rfl, ei⟩ := hP
              obtain ⟨rfl, hz⟩ := hY
              rw [List.getElem?_map] at hz
              obtain ⟨x, hx, rfl⟩ := Option.map_eq_some_iff.mp hz
              have xk := List.mem_of_getElem? hx
              have Ei := E10.trans ei
              walk_at "rd"
              dsimp only [List.set_cons_succ, List.set_cons_zero]
              walk_at "rd"
              refine ⟨W, p, u.1, u.2, x, ks, ys, zs, rfl, tw.ex Ei, hup Ei, ut, xk, fun sq Hj l2 ej so2 ln2 lm2 hsq => ?_⟩
              walk_at "rd"
              refine Rd.lcm' ?_
              refine ⟨_, rfl, lo, rfl, ⟨_, SqL.of (ej _ _ (ei _ _ hlo10))⟩, fun D2 hD2 => ?_⟩
              refine lc_lots (walk_list (xs := tmk (f0 :: fr))) (fun l0 => decide (x ∈ l0)) hD2 (by omega) (fun H' e => ex_l e (SqL.of (ej _ _ (ei _ _ hlo10)))) (fun q hq Hx B ea hB => ?_) (fun Hk ek lk => ?_)
              · show _ ∧ _
                refine ⟨rfl, ?_⟩
                walk_at "rd"
                refine ⟨q.1, _, rfl, .inr (SqT.of (ea _ _ (ej _ _ (ei _ _ (tps10 q hq))))), rfl, flat_strs q.2, ?_⟩
                rw [if_neg (by decide), inV_strs]
                refine ⟨_, rfl, ?_⟩
                refine hB _ _ (Ex.refl _) fun _ R hR => ?_
                walk_at "rd"
                exact hR _ (Ex.refl _)
              · obtain ⟨q0, hq0, xq0⟩ := LO.all x xk
                obtain ⟨g1, gr, hg⟩ : ∃ g1 gr, ((f0 :: fr).filter fun q => decide (x ∈ q.2)) = g1 :: gr := by
                  cases hh : ((f0 :: fr).filter fun q => decide (x ∈ q.2)) with
                  | nil =>
                    have z := List.filter_eq_nil_iff.mp hh q0 hq0
                    simp [xq0] at z
                  | cons a b => exact ⟨a, b, rfl⟩
                have gm : g1 ∈ (f0 :: fr).filter fun q => decide (x ∈ q.2) := by rw [hg]; exact List.mem_cons_self
                obtain ⟨gf, xg⟩ := List.mem_filter.mp gm
                have xg := of_decide_eq_true xg
                rw [hg] at lk
                walk_at "rd"
                refine Rd.ixl (i := 0) (v := .ref g1.1) (SqL.of lk) (atI_nat (xs := tmk (g1 :: gr)) (j := 0) rfl) ?_
                have GO := LO.ok g1 gf
                obtain ⟨y0, yin, hy0⟩ := GO.ex
                have lks : ∀ y ∈ l2, y ∈ ks := fun y hy => con_in (fun v hv => TO.sub v (OwG.mem_but.mp hv).1) xk ((lm2 y).mp hy)
                refine neT_same (ek _ _ hsq) ((ej.trans ek) _ _ (ei _ _ (tps10 g1 gf))) (fun y hy => ok.names y (lks y hy)) (sort_same so2 ln2 GO.so GO.nd fun y => ?_) ⟨_, rfl, ?_⟩
                · have c0 := rch_con.mp ((hy0 x).mp xg)
                  rw [lm2, hy0, rch_con]
                  exact ⟨fun z => c0.trans z, fun z => c0.symm.trans z⟩
                · refine Rd.iteF (by decide) ?_
                  exact ⟨_, rfl, (ei.trans ej).trans ek⟩
            · obtain ⟨x10, rfl, ei⟩ := hP
              have Ei := E10.trans ei
              walk_at "rd"
              with_reducible refine Rd.for' ?_
              refine ⟨_, rfl, O, rfl, ⟨_, SqL.of (Ei _ _ o2)⟩, ?_⟩
              refine for_it (walk_list (xs := rf off)) (fun i σ H' => ∃ y6 y11 y12 y13 : Option V, σ = [some (.ref d), some (.ref p), some (.ref W), some (.ref O), x4, x5, y6, some (.ref u.1), some (.ref lo), some (.ref cu), x10, y11, y12, y13, none, none] ∧ Ex H10 H') ⟨_, _, _, _, rfl, ei⟩ (fun i σ H' _ hP => ?_) (fun i z σ Hj Hk hi hP hY => ?_) (fun σ Hj hP => ?_)
              · obtain ⟨_, _, _, _, rfl, ej⟩ := hP
                exact ex_l (E10.trans ej) (SqL.of o2)
              · obtain ⟨y6, y11, y12, y13, rfl, ej⟩ := hP
                obtain ⟨rfl, hz⟩ := hY
                rw [List.getElem?_map] at hz
                obtain ⟨v, hv, rfl⟩ := Option.map_eq_some_iff.mp hz
                obtain ⟨vy, vn⟩ := offm v (List.mem_of_getElem? hv)
                have vt : v.2 ∈ ys.map (·.2) := List.mem_map.mpr ⟨v, vy, rfl⟩
                obtain ⟨v1, v2, vl⟩ := ok.ends v.2 vt
                have hvp : ∀ {H'}, Ex H2 H' → PairAt H' v.1 v.2 := fun e => t2.pl.ta.ex e v vy
                have Ej := E10.trans ej
                walk_at "rd"
                dsimp only [List.set_cons_succ, List.set_cons_zero]
                walk_at "rd"
                refine Rd.lcm' ?_
                refine ⟨_, rfl, p, rfl, ⟨_, SqT.of (Ej _ _ t2.at_)⟩, fun D2 hD2 => ?_⟩
                refine lc_ties (walk_tup (xs := rf zs)) (fun t => !decide (t = u.2)) hD2 (by omega) (fun H' e => ex_t e (SqT.of (Ej _ _ t2.at_))) (fun t ht Hx B ea hB => ?_) (fun Hl el ll => ?_)
                · show _ ∧ _
                  refine ⟨rfl, ?_⟩
                  walk_at "rd"
                  refine nePr_of (t2.ta.ex (Ej.trans ea) t ht) (hup (Ej.trans ea)) (okz t.2 (List.mem_map.mpr ⟨t, ht, rfl⟩)) (okz u.2 ut) ⟨_, rfl, ?_⟩
                  refine hB _ _ (Ex.refl _) fun _ R hR => ?_
                  walk_at "rd"
                  exact hR _ (Ex.refl _)
                · rw [hbz] at ll
                  walk_at "rd"
                  refine ⟨small64 (n := 1) (by decide), fun N hN => ?_⟩
                  have en : Ex Hl (upd Hl N (.lst [V.ref v.1])) := Ex.new hN
                  have hn : (upd Hl N (.lst [V.ref v.1])) N = some (.lst [V.ref v.1]) := upd_same
                  generalize upd Hl N (.lst [V.ref v.1]) = Hm at en hn ⊢
                  walk_at "rd"
                  refine cat_of (en _ _ ll) hn (by unfold rf; rw [List.length_map, List.length_singleton, sizeLine_eq]; omega) fun C1 Hn en2 hc1 _ => ?_
                  have hc1' : Hn C1 = some (.lst (rf (bz ++ [(v.1, v.2)]))) := by
                    rw [hc1]
                    unfold rf
                    rw [List.map_append]
                    rfl
                  have En := ((Ej.trans el).trans en).trans en2
                  have tan : TA Hn (bz ++ [(v.1, v.2)]) := fun t ht => by
                    rcases List.mem_append.mp ht with y | y
                    · exact t2.ta.ex En t (hbs t y)
                    · rw [List.mem_singleton.mp y]
                      exact hvp En
                  have em : (bz ++ [(v.1, v.2)]).map (·.2) = OwG.but (zs.map (·.2)) u.2 ++ [v.2] := by
                    rw [List.map_append, hbm]
                    rfl
                  have ndn : ((bz ++ [(v.1, v.2)]).map (·.2)).Nodup := by
                    rw [em]
                    refine List.nodup_append.mpr ⟨TO.nd.filter _, by simp, fun a ha b hb e => vn ?_⟩
                    rw [List.mem_singleton.mp hb] at e
                    rw [← e]
                    exact (OwG.mem_but.mp ha).1
                  walk_at "rd"
                  refine sort_ties hc1' tan ndn (by rw [List.length_append, List.length_singleton]; omega) fun S Ho es eo _ so tao pm asc => ?_
                  walk_at "rd"
                  refine ⟨S, _, rfl, .inl ⟨SqL.of so, fun du hdu => ?_⟩⟩
                  have ep : Ex Ho (upd Ho du (.tup (rf es))) := Ex.new hdu
                  have hp1 : (upd Ho du (.tup (rf es))) du = some (.tup (rf es)) := upd_same
                  show gName 11 _ _ (upd Ho du (.tup (rf es))) _
                  generalize upd Ho du (.tup (rf es)) = Hp1 at ep hp1 ⊢
                  have Ep := (En.trans eo).trans ep
                  have epz : Ex H10 Hp1 := ((((ej.trans el).trans en).trans en2).trans eo).trans ep
                  have mem : ∀ t, t ∈ es.map (·.2) ↔ t ∈ OwG.but (zs.map (·.2)) u.2 ∨ t = v.2 := fun t => by
                    rw [(pm.map (·.2)).mem_iff, em, List.mem_append, List.mem_singleton]
                  have sub : ∀ t ∈ es.map (·.2), t ∈ ys.map (·.2) := fun t ht => by
                    rcases (mem t).mp ht with z | z
                    · exact t2.tr.sub t (OwG.mem_but.mp z).1
                    · rw [z]; exact vt
                  have lne : es.length + 1 = ks.length := by
                    have a := pm.length_eq
                    have b := OwG.but_len TO.nd ut
                    have c := congrArg List.length em
                    have d := t2.tr.len
                    rw [List.length_map, List.length_append, List.length_append, List.length_singleton, List.length_singleton] at c
                    rw [List.length_append, List.length_singleton] at a
                    omega
                  have sw := TO.swap ok.knd ut (⟨v1, v2⟩ : v.2.1 ∈ ks ∧ v.2.2 ∈ ks) mem
                  have tap := tao.ex ep
                  clear hc1 hc1' tan hn ll hN hdu so tao el en en2 eo ep
                  walk_at "rd"
                  dsimp only [List.set_cons_succ, List.set_cons_zero]
                  walk_at "rd"
                  refine Rd.ixt (i := 0) (v := .str v.2.1) (SqT.of (hvp Ep)) rfl ?_
                  walk_at "rd"
                  refine Rd.ixt (i := 1) (v := .str v.2.2) (SqT.of (hvp Ep)) rfl ?_
                  walk_at "rd"
                  refine ⟨d, p, v.2.1, v.2.2, ks, ys, zs, rfl, t2.ex Ep, v1, v2, fun rw_ Hq row eq1 wy hrow => ?_⟩
                  have Eq := Ep.trans eq1
                  walk_at "rd"
                  dsimp only [List.set_cons_succ, List.set_cons_zero]
                  walk_at "rd"
                  have czok : ∀ t ∈ cz.map (·.2), okP t := fun t ht => by
                    obtain ⟨y, hy, rfl⟩ := List.mem_map.mp ht
                    exact ok.okP _ (List.mem_map.mpr ⟨y, (hcm y hy).1, rfl⟩)
                  refine inTs_of (t := v.2) (hvp Eq) (.inl (eq1 _ _ (epz _ _ hcu10))) (tcu10.ex (epz.trans eq1)) (ok.okP v.2 vt) czok ?_
                  rw [if_neg (by decide)]
                  have hcon : v.2 ∈ cz.map (·.2) ↔ ¬ OwG.Con (OwG.but (zs.map (·.2)) u.2) v.2.1 v.2.2 := by
                    rw [hcf, List.mem_filter, same v.2 vt]
                    have z := across_con ok.knd TO ut lm (⟨v1, v2⟩ : v.2.1 ∈ ks ∧ v.2.2 ∈ ks)
                    exact ⟨fun y => z.mp y.2, fun y => ⟨vt, z.mpr y⟩⟩
                  generalize hfit : decide (v.2 ∈ cz.map (·.2)) = fit
                  have fitc : fit = true ↔ ¬ OwG.Con (OwG.but (zs.map (·.2)) u.2) v.2.1 v.2.2 := by
                    rw [← hfit, decide_eq_true_iff]
                    exact hcon
                  walk_at "rd"
                  dsimp only [List.set_cons_succ, List.set_cons_zero]
                  walk_at "rd"
                  obtain ⟨hpw, rkw, Gw⟩ := wy.ex
                  have hb : (u.2.1 ∈ row ∧ u.2.2 ∈ row) ↔ fit = true := (wy.way.both (u := u.2.1) (v := u.2.2) ok.knd TO Gw ut).trans fitc.symm
                  have hb2 : (decide (u.2.1 ∈ row) && decide (u.2.2 ∈ row)) = fit := by
                    rw [Bool.eq_iff_iff, ← hb, Bool.and_eq_true, decide_eq_true_iff, decide_eq_true_iff]
                  refine both_in rfl rfl (hup Eq) hrow ?_
                  rw [hb2]
                  walk_at "rd"
                  refine Rd.ne (by cases fit <;> rfl) ⟨_, rfl, ?_⟩
                  have s1 : (!decide (V.bl fit = V.bl fit)) = false := by simp
                  rw [s1]
                  refine Rd.iteF (by decide) ?_
                  walk_at "rd"
                  refine ⟨W, du, ks, ys, es, rfl, tw.web.ex Eq, eq1 _ _ hp1, tap.ex eq1, sub, asc, lne, fun Hr cc er hcc => ?_⟩
                  have ecc : cc = fit := by rw [Bool.eq_iff_iff, hcc, fitc]; exact sw
                  subst ecc
                  walk_at "rd"
                  refine Rd.ne (by cases cc <;> rfl) ⟨_, rfl, ?_⟩
                  rw [s1]
                  refine Rd.iteF (by decide) ?_
                  walk_at "rd"
                  have Er := Eq.trans er
                  have ezr : Ex H10 Hr := (epz.trans eq1).trans er
                  have hduR := (eq1.trans er) _ _ hp1
                  have tapR := (tap.ex eq1).ex er
                  refine ⟨W, p, u.1, v.1, u.2, v.2, ks, ys, zs, rfl, ⟨tw.ex Er, hup Er, hvp Er, ut, vt, vn⟩, fun q5 Hs es2 es3 nc hq5 ta5 tr5 mem5 => ?_, fun Hs es3 con => ?_⟩
                  · have f1 : cc = true := fitc.mpr nc
                    subst f1
                    walk_at "rd"
                    refine ⟨_, rfl, ?_⟩
                    refine neP_same hq5 (es3 _ _ hduR) ta5 (tapR.ex es3) (fun t ht => ok.okP t (tr5.sub t ht)) (sort_sameP tr5.asc asc fun t => (mem5 t).trans (mem t).symm) ⟨_, rfl, ?_⟩
                    refine Rd.iteF (by decide) ?_
                    exact ⟨_, _, _, _, rfl, ezr.trans es3⟩
                  · have f1 : cc = false := Bool.eq_false_iff.mpr fun z => fitc.mp z con
                    subst f1
                    walk_at "rd"
                    refine ⟨.none, .none, .non, .non, by decide, by decide, ⟨_, rfl, ?_⟩⟩
                    have s2 : (!PyData.eqv .none .none) = false := by simp [PyData.eqv]
                    rw [s2]
                    refine Rd.iteF (by decide) ?_
                    exact ⟨_, _, _, _, rfl, ezr.trans es3⟩
              · obtain ⟨y6, y11, y12, y13, rfl, ej⟩ := hP
                exact ⟨_, _, _, _, _, _, _, _, rfl, E10.trans ej⟩
          · obtain ⟨x6, x7, x8, x9, x10, x11, x12, x13, rfl, ee⟩ := hP
            walk_at "rd"
            exact k _ (E2.trans ee)
end
end OwW


namespace OwW
open PySem PyProof.Rows L2 L2H OwX Rd Evl OwAn
theorem not_dice {H : Hp} {a x : Addr} {o : HO} (hd : HasDice H a) (h : H x = some o) (ne : ∀ l, o ≠ .lst l) : x ≠ a := fun e => by
  obtain ⟨l, s, n, _, q⟩ := hd
  rw [e, q] at h
  cases h
  exact ne _ rfl
theorem IsWeb.wo' {C : Addr} {H : Hp} {a wb : Addr} {ks : List Str} {ys : TL} (hd : HasDice H a) (w : IsWeb C H wb ks ys) : IsWeb C (wo a H) wb ks ys := by
  obtain ⟨ok, dx, p, q, n, nl, h1, wa, h3, h4, h5⟩ := w
  refine ⟨ok, dx, p, q, n, nl, wo_of h1 (not_dice hd h1 fun _ => nofun), ⟨wo_of wa.ps (not_dice hd wa.ps fun _ => nofun), wo_of wa.ts (not_dice hd wa.ts fun _ => nofun), fun t ht => wo_of (wa.ta t ht) (not_dice hd (wa.ta t ht) fun _ => nofun)⟩, wo_of h3 (not_dice hd h3 fun _ => nofun), h4, fun t ht => ?_⟩
  have z := h5 t ht
  exact ⟨wo_of z.at_ (not_dice hd z.at_ fun _ => nofun), z.pm, z.so⟩
abbrev sLed : Stmt := top 64
abbrev NLd : List Str := ["_law_dice_here", "_law_plain_here", "_law_one", "_law_other", "_law_web_here", "_law_here", "_law_out", "_law_fit", "_law_tie_here"]
def spLed : Sp := fun vs H Q _ => ∃ (a d p q : Addr) (ks : List Str) (ys zs ws : TL), vs = [.ref a, .ref d, .ref p, .ref q] ∧ HasDice H a ∧ PlTree (wo a H) d p ks ys zs ∧ wo a H q = some (.tup (rf ws)) ∧ TA (wo a H) ws ∧ TrOk ks (ys.map (·.2)) (ws.map (·.2)) ∧ ∀ H', DX a H H' → Q (.bl true) H'
/-- the ties that may come in -/
noncomputable def fitB (here : List (Str × Str)) (o t : Str × Str) : Bool := !decide (t ∈ here) && @decide (¬ OwG.Con (OwG.but here o) t.1 t.2) (Classical.propDecidable _)
theorem fit_iff {here : List (Str × Str)} {o t : Str × Str} : fitB here o t = true ↔ ¬ t ∈ here ∧ ¬ OwG.Con (OwG.but here o) t.1 t.2 := by
  unfold fitB
  rw [Bool.and_eq_true, @decide_eq_true_iff _ (Classical.propDecidable _)]
  simp
theorem fit_some {ks : List Str} {here ws : List (Str × Str)} {o : Str × Str} (nd : ks.Nodup) (T : OwG.TreeOk ks here) (ho : o ∈ here) (hn : ¬ o ∈ ws) (cw : ∀ x ∈ ks, ∀ y ∈ ks, OwG.Con ws x y) : ∃ t ∈ ws, fitB here o t = true := by
  apply Classical.byContradiction
  intro n
  have all : ∀ t ∈ ws, OwG.Con (OwG.but here o) t.1 t.2 := fun t ht => Classical.byContradiction fun c => n ⟨t, ht, fit_iff.mpr ⟨fun hi => c (.one (.inl (OwG.mem_but.mpr ⟨hi, fun e => hn (e ▸ ht)⟩))), c⟩⟩
  have lift : ∀ {x y}, OwG.Con ws x y → OwG.Con (OwG.but here o) x y := fun h => by
    induction h with
    | here => exact .here
    | on _ e ih => exact ih.trans (e.elim (fun z => all _ z) (fun z => (all _ z).symm))
  obtain ⟨k1, k2⟩ := T.sub o ho
  exact T.cut (u := o.1) (v := o.2) nd ho (lift (cw _ k1 _ k2))
theorem sub_all {α : Type} [DecidableEq α] {l m : List α} (nd : l.Nodup) (sub : ∀ x ∈ l, x ∈ m) (len : m.length ≤ l.length) {x : α} (hx : x ∈ m) : x ∈ l := by
  apply Classical.byContradiction
  intro n
  have z := OwG.nd_le (l := l) (m := m.erase x) nd fun s hs => (List.mem_erase_of_ne fun e => n (by rw [← e]; exact hs)).mpr (sub s hs)
  rw [List.length_erase_of_mem hx] at z
  have p := List.length_pos_of_mem hx
  omega
section
variable {P : Program} {w : World} {K : PySem.W.Frag} {mg : Str → Option Value} {base : Heap}
theorem scLed : FnScope NLd ["_law_dice_here", "_law_plain_here", "_law_one", "_law_other"] (defScope sLed) := ⟨rfl, rfl, rfl, by decide +kernel, rfl, by decide +kernel, by decide +kernel⟩
theorem ok_led {f CW : Addr} {fd : FuncData} (F : Fun K "_law_led_right" "_law_led_right" sLed f fd) (cMa : Cl P w K mg base 8 "_law_made" ["_law_plain_here"] (spMade CW)) (cMi : Cl P w K mg base 2 "_law_mixed" ["_law_dice_here", "_law_items"] spMixed) (cC : Cl P w K mg base 6 "cut_closed" ["web", "tree", "tie"] (spCutC CW)) (cX : Cl P w K mg base 5 "exchanged" ["web", "tree", "out", "new"] (spExch CW)) (cP : Cl P w K mg base 2 "_law_pick" ["_law_dice_here", "_law_items"] (spPick K)) : FnOk P w K mg base CX0 9 f fd ["_law_dice_here", "_law_plain_here", "_law_one", "_law_other"] spLed := by
  have nd := scLed.nd
  refine F.ok scLed (fun vs H Q E h => ?_) (fun cdv A outer s H vs Q E hr h => ⟨_, (pss_cons (ps_asg (pe_tup (pa_cons (pe_call cMa.ok (hr.mono (by decide)) (by rfl) cMa.gl cMa.kp cMa.bd .nil pass0 (pa_cons (pv 1) pa_nil)) (pa_cons (pv 2) pa_nil))) (pg_tup rfl (pgs_cons (pg_name (i := 4) nd rfl (Or.inr rfl)) (pgs_cons (pg_name (i := 5) nd rfl (Or.inr rfl)) pgs_nil))))
    (pss_cons (ps_for PassesOwn.never rfl (pi_list (pe_call cMi.ok (hr.mono (by decide)) (by rfl) cMi.gl cMi.kp cMi.bd .nil pass0 (pa_cons (pv 0) (pa_cons (pe_lc (own := [("_law_tie_here", 8)]) (g := gName 8) (tt := tTest (tOp (rInTs true) (tVar 8) (tVar 3))) rfl nd (pi_tup (pv 2)) (blkOk_by (own := [("_law_tie_here", 8)]) (N := NLd) (sc := defScope sLed) (by decide +kernel)) (fun _ _ _ _ _ => (pg_name (i := 8) nd rfl (Or.inl rfl))) (fun _ _ _ _ _ => (pts_one (pt_cmpR (op_ninTs (units65 hr)) (pv 8) (pv 3) (by with_unfolding_all rfl)))) (fun _ _ _ _ _ => (pv 8))) pa_nil)))) (pg_name (i := 6) nd rfl (Or.inr rfl)) (pss_cons (ps_setLc (i := 7) (own := [("_law_tie_here", 8)]) (g := gName 8) (tt := tAnd (tTest (tOp (rInTs true) (tVar 8) (tVar 5))) (tTest (tOp (rInTs false) (tVar 8) (tCall (spCutC CW) [] E0 (tCons (tVar 4) (tCons (tVar 5) (tCons (tVar 6) tNil))))))) rfl nd rfl rfl (sw_true rfl rfl rfl (by decide +kernel)) (pi_tup (pv 3)) (blkOk_by (own := [("_law_tie_here", 8)]) (N := NLd) (sc := defScope sLed) (by decide +kernel)) (fun _ _ _ _ _ => (pg_name (i := 8) nd rfl (Or.inl rfl))) (fun _ _ _ _ _ => (pts_one ((pw_and (pt_cmpR (op_ninTs (units65 hr)) (pv 8) (pv 5) (by with_unfolding_all rfl)) (pw_and1 (pt_cmpR (op_inTs (units65 hr)) (pv 8) (pe_call cC.ok (hr.mono (by decide)) (by rfl) cC.gl cC.kp cC.bd .nil pass0 (pa_cons (pv 4) (pa_cons (pv 5) (pa_cons (pv 6) pa_nil)))) (by with_unfolding_all rfl))))).pt)) (fun _ _ _ _ _ => (pv 8)))
    (pss_cons (ps_if (pt_cmpR (op_eqD hr.units) (pv 7) (pe_lstN pa_nil) (nomark _)) (pss_one (ps_ret pe_bl)) pss_nil)
    (pss_one (ps_set (i := 5) nd rfl (Or.inr rfl) (pe_call cX.ok (hr.mono (by decide)) (by rfl) cX.gl cX.kp cX.bd .nil pass0 (pa_cons (pv 4) (pa_cons (pv 5) (pa_cons (pv 6) (pa_cons (pe_call cP.ok (hr.mono (by decide)) (by rfl) cP.gl cP.kp cP.bd .nil pass0 (pa_cons (pv 0) (pa_cons (pv 7) pa_nil))) pa_nil))))))))))
    (pss_one (ps_ret (pe_cmpR (op_eqD hr.units) (pv 5) (pv 3) (nomark _)))))), ?_⟩)
  · obtain ⟨a, d, p, q, ks, ys, zs, ws, rfl, _⟩ := h
    rfl
  · obtain ⟨a, d, p, q, ks, ys, zs, ws, rfl, hd, t, hq, tq, trq, k⟩ := h
    have ok := t.ok
    have n9 := ok.nine
    have fwy := ok.few
    rw [List.length_map] at fwy
    have TW := trq.tree ok
    have okw : ∀ u ∈ ws.map (·.2), okP u := fun u hu => ok.okP u (trq.sub u hu)
    have okz : ∀ u ∈ zs.map (·.2), okP u := fun u hu => ok.okP u (t.tr.sub u hu)
    have fewZ : zs.length ≤ 8 := by
      have z := t.tr.len
      rw [List.length_map] at z
      omega
    have fewW : ws.length ≤ 8 := by
      have z := trq.len
      rw [List.length_map] at z
      omega
    rw [show L2.start NLd [V.ref a, V.ref d, V.ref p, V.ref q] = [some (.ref a), some (.ref d), some (.ref p), some (.ref q), none, none, none, none, none] from rfl]
    walk_at "rd"
    have t0 := t.ex (wo_in a H)
    refine ⟨d, ks, ys, rfl, t0.pl, ok, fun W H1 e1 iw hW => ?_⟩
    walk_at "rd"
    refine ⟨small64 (n := 2) (by decide), fun tu htu => ⟨tu, [.ref W, .ref p], rfl, SqT.of upd_same, rfl, .ref W, [.ref p], rfl, ?_⟩⟩
    have e2 : Ex H (upd H1 tu (.tup [V.ref W, V.ref p])) := e1.trans (Ex.new htu)
    have iw2 := iw.ex (Ex.new (o := .tup [V.ref W, V.ref p]) htu)
    generalize upd H1 tu (.tup [V.ref W, V.ref p]) = H2 at e2 iw2 ⊢
    clear htu iw e1
    walk_at "rd"
    refine ⟨.ref p, [], rfl, ?_⟩
    walk_at "rd"
    refine ⟨rfl, ?_⟩
    dsimp only [List.set_cons_succ, List.set_cons_zero]
    have x2 : DX a H H2 := DX.of e2 hd
    walk_at "rd"
    with_reducible refine Rd.for' ?_
    unfold iList
    walk_at "rd"
    refine Rd.lcm' ?_
    have hp2 := wo_in a _ _ _ (x2.ex _ _ t.at_)
    have hq2 := wo_in a _ _ _ (x2.ex _ _ hq)
    have tz2 : TA H2 zs := (t.ta.ex x2.ex).ex (wo_in a _)
    have tq2 : TA H2 ws := (tq.ex x2.ex).ex (wo_in a _)
    refine ⟨_, rfl, p, rfl, ⟨_, SqT.of hp2⟩, fun D hD => ?_⟩
    refine lc_ties (walk_tup (xs := rf zs)) (fun u => !decide (u ∈ ws.map (·.2))) hD (by omega) (fun H' e => ex_t e (SqT.of hp2)) (fun u hu Ha B ea hB => ?_) (fun H3 e3 o3 => ?_)
    · show _ ∧ _
      refine ⟨rfl, ?_⟩
      walk_at "rd"
      refine inTs_of (t := u.2) (tz2.ex ea u hu) (.inr (ea _ _ hq2)) (tq2.ex ea) (okz u.2 (List.mem_map.mpr ⟨u, hu, rfl⟩)) okw ?_
      rw [if_pos rfl]
      refine ⟨_, rfl, ?_⟩
      refine hB _ _ (Ex.refl _) fun _ R hR => ?_
      walk_at "rd"
      exact hR _ (Ex.refl _)
    have offm : ∀ v ∈ zs.filter (fun u => !decide (u.2 ∈ ws.map (·.2))), v ∈ zs ∧ ¬ v.2 ∈ ws.map (·.2) := fun v hv => by
      obtain ⟨y, z⟩ := List.mem_filter.mp hv
      exact ⟨y, by simpa using z⟩
    have offz : ∀ v ∈ zs, ¬ v.2 ∈ ws.map (·.2) → v ∈ zs.filter (fun u => !decide (u.2 ∈ ws.map (·.2))) := fun v hv hn => List.mem_filter.mpr ⟨hv, by simpa using hn⟩
    have offn : ((zs.filter fun u => !decide (u.2 ∈ ws.map (·.2))).map (·.2)).Nodup := (asc_ndP t.tr.asc).sublist (List.filter_sublist.map _)
    have offl : (zs.filter fun u => !decide (u.2 ∈ ws.map (·.2))).length ≤ 8 := Nat.le_trans (List.length_filter_le _ _) fewZ
    generalize (zs.filter fun u => !decide (u.2 ∈ ws.map (·.2))) = off at o3 offm offz offn offl
    have x3 := x2.then e3
    walk_at "rd"
    refine ⟨a, D, _, rfl, x3.at_, wo_of o3 (fresh_ne x2.at_ hD), by unfold rf; rw [List.length_map]; omega, fun M mrow H4 pm x4 hM hMn => ?_⟩
    obtain ⟨ms, rfl, pmm⟩ := OwP.perm_unmap (fun p : Addr × Str × Str => V.ref p.1) pm off rfl
    have x34 := x3.trans x4
    have iw4 : IsWeb CW (wo a H4) W ks ys := ((iw2.wo' x2.at_).ex (DX.of e3 x2.at_).ex).ex x4.ex
    walk_at "rd"
    have few4 : ∀ hs : TL, TrOk ks (ys.map (·.2)) (hs.map (·.2)) → hs.length ≤ 8 := fun hs T => by
      have z := T.len
      rw [List.length_map] at z
      omega
    have tq4 : TA (wo a H4) ws := tq.ex x34.ex
    have q4 := x34.ex _ _ hq
    have y4 : ∀ v ∈ zs, wo a H4 v.1 = some (.tup [.str v.2.1, .str v.2.2]) := fun v hv => x34.ex _ _ (t.ta v hv)
    have msm : ∀ {u}, u ∈ ms → u ∈ zs ∧ ¬ u.2 ∈ ws.map (·.2) := fun h => offm _ (pmm.mem_iff.mp h)
    have msn : (ms.map (·.2)).Nodup := (pmm.map (·.2)).symm.nodup offn
    refine ⟨M, rfl, ⟨_, SqL.of (wo_in a _ _ _ hM)⟩, ?_⟩
    refine for_it (walk_list (xs := rf ms)) (fun i σ H' => ∃ (pp : Addr) (hs : TL) (x6 x7 : Option V), σ = [some (.ref a), some (.ref d), some (.ref p), some (.ref q), some (.ref W), some (.ref pp), x6, x7, none] ∧ DX a H4 H' ∧ wo a H' pp = some (.tup (rf hs)) ∧ TA (wo a H') hs ∧ TrOk ks (ys.map (·.2)) (hs.map (·.2)) ∧ (∀ (j : Nat) (u : Addr × Str × Str), i ≤ j → ms[j]? = some u → u.2 ∈ hs.map (·.2)) ∧ (∀ r ∈ hs.map (·.2), r ∈ ws.map (·.2) ∨ ∃ (j : Nat) (u : Addr × Str × Str), i ≤ j ∧ ms[j]? = some u ∧ u.2 = r))
      ⟨p, zs, _, _, rfl, DX.of (Ex.refl _) x4.at_, x34.ex _ _ t.at_, fun v hv => y4 v hv, t.tr, fun j u _ hj => List.mem_map.mpr ⟨u, (msm (List.mem_of_getElem? hj)).1, rfl⟩, fun r hr => ?_⟩ (fun i σ H' _ hP => ?_) (fun i z σ Ha Hb hi hP hY => ?_) (fun σ Ha hP => ?_)
    · obtain ⟨v, hv, rfl⟩ := List.mem_map.mp hr
      by_cases c : v.2 ∈ ws.map (·.2)
      · exact .inl c
      · obtain ⟨j, hj⟩ := List.mem_iff_getElem?.mp (pmm.mem_iff.mpr (offz v hv c))
        exact .inr ⟨j, v, Nat.zero_le _, hj, rfl⟩
    · obtain ⟨_, _, _, _, rfl, x5, _⟩ := hP
      exact SqL.of (wo_in a _ _ _ (x5.ex _ _ hM))
    · obtain ⟨pp, hs, x6, x7, rfl, x5, hpp, ths, trh, rem, cov⟩ := hP
      obtain ⟨rfl, hz⟩ := hY
      rw [List.getElem?_map] at hz
      obtain ⟨u, hu, rfl⟩ := Option.map_eq_some_iff.mp hz
      obtain ⟨uz, un⟩ := msm (List.mem_of_getElem? hu)
      have uh : u.2 ∈ hs.map (·.2) := rem i u (Nat.le_refl _) hu
      have TH := trh.tree ok
      have fh := few4 hs trh
      have okh : ∀ r ∈ hs.map (·.2), okP r := fun r hr => ok.okP r (trh.sub r hr)
      have tw : TreeAt CW Hb W pp ks ys hs := ⟨(iw4.ex x5.ex).ex (wo_in a _), wo_in a _ _ _ hpp, ths.ex (wo_in a _), trh⟩
      have hub : PairAt Hb u.1 u.2 := wo_in a _ _ _ (x5.ex _ _ (y4 u uz))
      have twb : TA Hb ws := (tq4.ex x5.ex).ex (wo_in a _)
      have qb := wo_in a _ _ _ (x5.ex _ _ q4)
      walk_at "rd"
      dsimp only [List.set_cons_succ, List.set_cons_zero]
      walk_at "rd"
      refine Rd.lcm' ?_
      refine ⟨_, rfl, q, rfl, ⟨_, SqT.of qb⟩, fun D2 hD2 => ?_⟩
      refine lc_ties (walk_tup (xs := rf ws)) (fitB (hs.map (·.2)) u.2) hD2 (by omega) (fun H' e => ex_t e (SqT.of qb)) (fun v hv Hx B ea hB => ?_) (fun H5 e5 l5 => ?_)
      · have vt : v.2 ∈ ys.map (·.2) := trq.sub _ (List.mem_map.mpr ⟨v, hv, rfl⟩)
        obtain ⟨v1, v2, _⟩ := ok.ends v.2 vt
        have hvx : ∀ {H'}, Ex Hx H' → H' v.1 = some (.tup [.str v.2.1, .str v.2.2]) := fun e => twb.ex (ea.trans e) v hv
        show _ ∧ _
        refine ⟨rfl, ?_⟩
        walk_at "rd"
        refine inTs_of (t := v.2) (hvx (Ex.refl _)) (.inr (ea _ _ tw.at_)) (tw.ta.ex ea) (ok.okP v.2 vt) okh ?_
        rw [if_pos rfl]
        refine ⟨_, rfl, ?_⟩
        by_cases c1 : v.2 ∈ hs.map (·.2)
        · rw [decide_eq_true c1]
          refine Rd.iteF (by decide) ?_
          have e0 : fitB (hs.map (·.2)) u.2 v.2 = false := Bool.eq_false_iff.mpr fun z => (fit_iff.mp z).1 c1
          rw [← e0]
          refine hB _ _ (Ex.refl _) fun _ R hR => ?_
          walk_at "rd"
          exact hR _ (Ex.refl _)
        · rw [decide_eq_false c1]
          refine Rd.iteT (by decide) ?_
          walk_at "rd"
          refine ⟨W, pp, u.1, u.2, ks, ys, hs, rfl, tw.ex ea, ea _ _ hub, uh, fun cq H6 l cs e6 lm hcq tcs mc => ?_⟩
          have okc : ∀ r ∈ cs.map (·.2), okP r := fun r hr => by
            rw [mc] at hr
            exact ok.okP r (List.mem_filter.mp hr).1
          refine inTs_of (t := v.2) (hvx e6) (.inr hcq) tcs (ok.okP v.2 vt) okc ?_
          rw [if_neg (by decide)]
          refine ⟨_, rfl, ?_⟩
          have e0 : decide (v.2 ∈ cs.map (·.2)) = fitB (hs.map (·.2)) u.2 v.2 := by
            rw [Bool.eq_iff_iff, decide_eq_true_iff, fit_iff, mc, List.mem_filter, across_con ok.knd TH uh lm (⟨v1, v2⟩ : v.2.1 ∈ ks ∧ v.2.2 ∈ ks)]
            exact ⟨fun z => ⟨c1, z.2⟩, fun z => ⟨vt, z.2⟩⟩
          rw [e0]
          refine hB _ _ e6 fun _ R hR => ?_
          walk_at "rd"
          exact hR _ e6
      have fm : ∀ v ∈ ws.filter (fun r => fitB (hs.map (·.2)) u.2 r.2), v ∈ ws ∧ ¬ v.2 ∈ hs.map (·.2) ∧ ¬ OwG.Con (OwG.but (hs.map (·.2)) u.2) v.2.1 v.2.2 := fun v hv => ⟨(List.mem_filter.mp hv).1, fit_iff.mp (List.mem_filter.mp hv).2⟩
      have f1 : 1 ≤ (ws.filter fun r => fitB (hs.map (·.2)) u.2 r.2).length := by
        obtain ⟨r, hr, fr⟩ := fit_some ok.knd TH uh un trq.con
        obtain ⟨v, hv, rfl⟩ := List.mem_map.mp hr
        exact List.length_pos_of_mem (List.mem_filter.mpr ⟨hv, fr⟩)
      have f8 : (ws.filter fun r => fitB (hs.map (·.2)) u.2 r.2).length ≤ 8 := Nat.le_trans (List.length_filter_le _ _) fewW
      generalize (ws.filter fun r => fitB (hs.map (·.2)) u.2 r.2) = fs at l5 fm f1 f8
      have x56 := x5.then e5
      walk_at "rd"
      dsimp only [List.set_cons_succ, List.set_cons_zero]
      walk_at "rd"
      have tf5 : TA H5 fs := fun v hv => twb.ex e5 v (fm v hv).1
      refine ⟨small64 (n := 0) (by decide), fun nl hnl _ => ⟨_, .list [], .lst (SqL.of ((Ex.new hnl) _ _ l5)) (dp_pairs (tf5.ex (Ex.new hnl))), .lst (SqL.of upd_same) .nil, shaped_pairs (fun r hr => ?_), by decide +kernel, _, rfl, ?_⟩⟩
      · obtain ⟨v, hv, rfl⟩ := List.mem_map.mp hr
        exact okw _ (List.mem_map.mpr ⟨v, (fm v hv).1, rfl⟩)
      have ee : PyData.eqv (.list ((fs.map (·.2)).map pairD)) (.list []) = false := by
        cases fs with
        | nil => exact absurd f1 (by decide)
        | cons v r => simp [PyData.eqv, PyData.eqvAll]
      rw [ee]
      refine Rd.iteF (by decide) ?_
      have e6 : Ex H5 (upd H5 nl (.lst [])) := Ex.new hnl
      have l6 := e6 _ _ l5
      generalize upd H5 nl (.lst []) = H6 at e6 l6 ⊢
      have x6 := x56.then e6
      walk_at "rd"
      refine pick_dx (xs := rf fs) x6.at_ (wo_of l6 (fresh_ne x5.at_ hD2)) (by unfold rf; rw [List.length_map]; exact f1) (by unfold rf; rw [List.length_map]; omega) fun pv H7 hpv x7 => ?_
      obtain ⟨v, hv, rfl⟩ := List.mem_map.mp hpv
      obtain ⟨vw, vn, vc⟩ := fm v hv
      have vt : v.2 ∈ ys.map (·.2) := trq.sub _ (List.mem_map.mpr ⟨v, vw, rfl⟩)
      have y7 : DX a Hb H7 := (DX.of (e5.trans e6) x5.at_).trans x7
      have x47 := x5.trans y7
      walk_at "rd"
      refine ⟨W, pp, u.1, v.1, u.2, v.2, ks, ys, hs, rfl, ⟨⟨(iw4.ex x47.ex).ex (wo_in a _), wo_in a _ _ _ (y7.ex _ _ hpp), (ths.ex y7.ex).ex (wo_in a _), trh⟩, wo_in a _ _ _ (x47.ex _ _ (y4 u uz)), wo_in a _ _ _ (x47.ex _ _ (tq4 v vw)), uh, vt, vn⟩, fun nq H8 es e8 _ hnq tes tre mem => ?_, vc⟩
      have x48 := x47.then e8
      walk_at "rd"
      dsimp only [List.set_cons_succ, List.set_cons_zero]
      have nqa : nq ≠ a := not_dice x48.at_ hnq fun _ => nofun
      refine ⟨nq, es, _, _, rfl, x48, wo_of hnq nqa, fun r hr => wo_of (tes r hr) (not_dice x48.at_ (tes r hr) fun _ => nofun), tre, fun j g hj hg => ?_, fun r hr => ?_⟩
      · have ne : g.2 ≠ u.2 := fun e => by
          have b1 : (ms.map (·.2))[j]? = some u.2 := by rw [List.getElem?_map, hg]; exact congrArg some e
          have b2 : (ms.map (·.2))[i]? = some u.2 := by rw [List.getElem?_map, hu]; rfl
          have := (List.getElem?_inj (List.getElem?_eq_some_iff.mp b1).1 msn).mp (b1.trans b2.symm)
          omega
        exact (mem g.2).mpr (.inl (OwG.mem_but.mpr ⟨rem j g (by omega) hg, ne⟩))
      · rcases (mem r).mp hr with z | z
        · obtain ⟨rh, rn⟩ := OwG.mem_but.mp z
          rcases cov r rh with y | ⟨j, g, hj, hg, e⟩
          · exact .inl y
          · refine .inr ⟨j, g, ?_, hg, e⟩
            rcases Nat.lt_or_eq_of_le hj with y | y
            · exact y
            · subst y
              rw [hu] at hg
              cases hg
              exact absurd e.symm rn
        · rw [z]
          exact .inl (List.mem_map.mpr ⟨v, vw, rfl⟩)
    · obtain ⟨pp, hs, x6, x7, rfl, x5, hpp, ths, trh, rem, cov⟩ := hP
      have sub : ∀ r ∈ hs.map (·.2), r ∈ ws.map (·.2) := fun r hr => (cov r hr).resolve_right fun ⟨j, u, hj, hu, _⟩ => by
        rw [show (rf ms).length = ms.length by unfold rf; rw [List.length_map]] at hj
        rw [List.getElem?_eq_none hj] at hu
        exact nomatch hu
      have same : hs.map (·.2) = ws.map (·.2) := by
        refine sort_sameP trh.asc trq.asc fun r => ⟨sub r, fun hr => ?_⟩
        have a1 := trh.len
        have a2 := trq.len
        exact sub_all (asc_ndP trh.asc) sub (by omega) hr
      walk_at "rd"
      have okh : ∀ r ∈ hs.map (·.2), okP r := fun r hr => ok.okP r (trh.sub r hr)
      refine ⟨_, _, .tup (SqT.of (wo_in a _ _ _ hpp)) (dp_pairs (ths.ex (wo_in a _))), .tup (SqT.of (wo_in a _ _ _ (x5.ex _ _ q4))) (dp_pairs ((tq4.ex x5.ex).ex (wo_in a _))), shaped_pairsT okh, shaped_pairsT okw, ?_⟩
      have ee : PyData.eqv (.tuple ((hs.map (·.2)).map pairD)) (.tuple ((ws.map (·.2)).map pairD)) = true := by
        rw [same]
        generalize ws.map (·.2) = l
        simp [PyData.eqv, eqvAll_pairs]
      rw [ee]
      exact k Ha (x34.trans x5)
end
end OwW


namespace OwW
open PySem PyProof.Rows L2 L2H OwX Rd Evl OwAn
abbrev sLaw : Stmt := top 65
abbrev NLaw : List Str := ["_law_script", "_law_spot", "_law_dice_here", "_law_plain_here", "_law_one", "_law_other", "_law_kite", "_law_chain"]
/-- what the law calls -/
structure Cq18 (P : Program) (w : World) (K : PySem.W.Frag) (mg : Str → Option Value) (base : Heap) (CW : Addr) where
  dice : Cl P w K mg base 1 "_law_dice" ["_law_script", "_law_spot"] (spDice K)
  web : Cl P w K mg base 3 "_law_web" ["_law_dice_here", "_law_most", "_law_spare"] spLWebN
  tree : Cl P w K mg base 3 "_law_tree" ["_law_dice_here", "_law_plain_here"] spLTree
  tr : Cl P w K mg base 9 "_law_tree_right" ["_law_plain_here", "_law_tree_here"] spTR
  led : Cl P w K mg base 9 "_law_led_right" ["_law_dice_here", "_law_plain_here", "_law_one", "_law_other"] spLed
  made : Cl P w K mg base 8 "_law_made" ["_law_plain_here"] (spMade CW)
  wri : Cl P w K mg base 3 "_law_written" ["_law_way_here"] spLWri
  ringc : Cl P w K mg base 7 "ring_closed" ["web", "tree", "tie"] (spRingC CW)
  wayin : Cl P w K mg base 7 "way_in" ["web", "tree", "a", "b"] (spWayIn CW)
  cutc : Cl P w K mg base 6 "cut_closed" ["web", "tree", "tie"] (spCutC CW)
  sideof : Cl P w K mg base 5 "side_of" ["web", "tree", "tie", "place"] (spSideOf CW)
  T : BltM mg
def spLaw (K : PySem.W.Frag) : Sp := fun vs H Q _ => ∃ (a : Addr) (ns : List Int), vs = [.ref a] ∧ SqL K H a (ns.map V.int) ∧ ∀ H', Q (.bl true) H'
theorem sql_ex {K : PySem.W.Frag} {H H' : Hp} {a : Addr} {xs : List V} (e : Ex H H') (h : SqL K H a xs) : SqL K H' a xs := by
  rcases h with (h | ⟨o, h⟩) | h
  · exact Or.inl (Or.inl (e _ _ h))
  · exact Or.inl (Or.inr ⟨o, e _ _ h⟩)
  · exact Or.inr h
/-- what stood before the dice still stands -/
theorem past_dx {p : Addr} {H H1 H' : Hp} (hp : H p = none) (e : Ex H H1) (x : DX p H1 H') : Ex H H' := fun b u h => by
  have nb : b ≠ p := fun z => by rw [z, hp] at h; cases h
  exact wo_in p H' _ _ (x.ex _ _ (wo_of (e _ _ h) nb))
theorem kite_ok : WebOk kiteK kiteE := by
  refine ⟨by decide +kernel, by decide, by decide, kite_asc, by decide +kernel, by decide, kite_tasc, fun k hk => ?_⟩
  have ra : Rch kiteE "a" "a" := .here
  have rb : Rch kiteE "a" "b" := .on ra (by decide +kernel)
  have rc : Rch kiteE "a" "c" := .on ra (by decide +kernel)
  have rd : Rch kiteE "a" "d" := .on rb (by decide +kernel)
  show Rch kiteE "a" k
  rcases List.mem_cons.mp hk with rfl | hk
  · exact ra
  rcases List.mem_cons.mp hk with rfl | hk
  · exact rb
  rcases List.mem_cons.mp hk with rfl | hk
  · exact rc
  rw [List.mem_singleton.mp hk]
  exact rd
def chainE : List (Str × Str) := [("a", "b"), ("b", "d"), ("c", "d")]
theorem con_stay {ts : List (Str × Str)} {S : List Str} (h : ∀ t ∈ ts, (t.1 ∈ S ↔ t.2 ∈ S)) {x y : Str} (hx : x ∈ S) (c : OwG.Con ts x y) : y ∈ S := by
  induction c with
  | here => exact hx
  | on _ e ih => exact e.elim (fun z => (h _ z).mp ih) (fun z => (h _ z).mpr ih)
theorem con_of_rch {ts : List (Str × Str)} {x y : Str} (h : y ∈ endsL ts x) : OwG.Con ts x y := .one (ends_iff.mp h)
theorem chain_tr : TrOk kiteK kiteE chainE := by
  have ab : OwG.Con chainE "b" "a" := con_of_rch (by decide +kernel)
  have bd : OwG.Con chainE "b" "d" := con_of_rch (by decide +kernel)
  have dc : OwG.Con chainE "d" "c" := con_of_rch (by decide +kernel)
  have all : ∀ k ∈ kiteK, OwG.Con chainE "b" k := fun k hk => by
    rcases List.mem_cons.mp hk with rfl | hk
    · exact ab
    rcases List.mem_cons.mp hk with rfl | hk
    · exact .here
    rcases List.mem_cons.mp hk with rfl | hk
    · exact bd.trans dc
    rw [List.mem_singleton.mp hk]
    exact bd
  exact ⟨by decide +kernel, by decide +kernel, by decide, fun x hx y hy => (all x hx).symm.trans (all y hy)⟩
theorem par_of {tr : List (Str × Str)} {home p q : Str} (n : p ≠ home) (a : q ∈ endsL tr p) (c : OwG.Con (OwG.off tr p) q home) : OwG.Par tr home p q := ⟨n, ends_iff.mp a, c⟩
theorem way_ac : OwG.Way chainE "c" "a" ["a", "b", "d", "c"] :=
  .on (par_of (by decide +kernel) (by decide +kernel) ((con_of_rch (y := "d") (by decide +kernel)).trans (con_of_rch (by decide +kernel))))
    (.on (par_of (by decide +kernel) (by decide +kernel) (con_of_rch (by decide +kernel)))
      (.on (par_of (by decide +kernel) (by decide +kernel) .here) .home))
theorem way_ca : OwG.Way chainE "a" "c" ["c", "d", "b", "a"] :=
  .on (par_of (by decide +kernel) (by decide +kernel) ((con_of_rch (y := "b") (by decide +kernel)).trans (con_of_rch (by decide +kernel))))
    (.on (par_of (by decide +kernel) (by decide +kernel) (con_of_rch (by decide +kernel)))
      (.on (par_of (by decide +kernel) (by decide +kernel) .here) .home))
theorem side_bd (k : Str) : OwG.Con (OwG.but chainE ("b", "d")) "b" k ↔ k ∈ [("a" : Str), "b"] := by
  constructor
  · exact con_stay (by decide +kernel) (by decide +kernel)
  · intro h
    rcases List.mem_cons.mp h with rfl | h
    · exact con_of_rch (by decide +kernel)
    · rw [List.mem_singleton.mp h]
      exact .here
theorem side_c (k : Str) : OwG.Con (OwG.but chainE ("b", "d")) "c" k ↔ k ∈ [("c" : Str), "d"] := by
  constructor
  · exact con_stay (by decide +kernel) (by decide +kernel)
  · intro h
    rcases List.mem_cons.mp h with rfl | h
    · exact .here
    · rw [List.mem_singleton.mp h]
      exact con_of_rch (by decide +kernel)
theorem min_ac : MinAt ["a", "b", "d", "c"] 0 := ⟨by decide, by decide +kernel⟩
theorem turn_ac : turnL (rotL ["a", "b", "d", "c"] 0) = [("a" : Str), "b", "d", "c"] := by decide +kernel
theorem acr_ab : kiteE.filter (acrossB ["a", "b"]) = [(("a" : Str), ("c" : Str)), ("b", "c"), ("b", "d")] := by decide +kernel
theorem chain_two : ∀ t ∈ kiteE, t.1 ∈ kiteK ∧ t.2 ∈ kiteK := by decide +kernel
section
variable {P : Program} {w : World} {K : PySem.W.Frag} {mg : Str → Option Value} {base : Heap}
theorem scLaw : FnScope NLaw ["_law_script"] (defScope sLaw) := ⟨rfl, rfl, rfl, by decide +kernel, rfl, by decide +kernel, by decide +kernel⟩
theorem ok_law {f CW : Addr} {fd : FuncData} (F : Fun K "law" "law" sLaw f fd) (q : Cq18 P w K mg base CW) : GFn P w K mg base (L2.CX P w) 10 f fd ["_law_script"] (spLaw K) := by
  have nd := scLaw.nd
  have T := q.T
  refine gfn_of F scLaw (fun vs H Q E h => ?_) (fun cdv A outer s H vs Q E hr hg h => ⟨_, (pss_cons (ps_for (passes_of rfl) rfl (pi_range1 rfl T.range (pa_cons (pe_callB (call_max2 rfl) (by rfl) T.max (by decide +kernel) (pa_cons pe_int (pa_cons (pe_callB (call_min2 rfl) (by rfl) T.min (by decide +kernel) (pa_cons pe_int (pa_cons (pe_callB call_len_seq (by rfl) T.len (by decide +kernel) (pa_cons (pv 0) pa_nil)) pa_nil))) pa_nil))) pa_nil)) (pg_name (i := 1) nd rfl (Or.inl rfl)) (pss_cons (ps_set (i := 2) nd rfl (Or.inl rfl) (pe_call q.dice.ok (hr.mono (by decide)) (by rfl) q.dice.gl q.dice.kp q.dice.bd .nil pass0 (pa_cons (pv 0) (pa_cons (pv 1) pa_nil))))
    (pss_cons (ps_set (i := 3) nd rfl (Or.inl rfl) (pe_call q.web.ok (hr.mono (by decide)) (by rfl) q.web.gl q.web.kp q.web.bd .nil pass0 (pa_cons (pv 2) (pa_cons pe_int (pa_cons pe_int pa_nil)))))
    (pss_cons (ps_par (i := 4) (j := 5) rfl nd rfl rfl (by decide) rfl rfl (pa_cons (pe_call q.tree.ok (hr.mono (by decide)) (by rfl) q.tree.gl q.tree.kp q.tree.bd .nil pass0 (pa_cons (pv 2) (pa_cons (pv 3) pa_nil))) (pa_cons (pe_call q.tree.ok (hr.mono (by decide)) (by rfl) q.tree.gl q.tree.kp q.tree.bd .nil pass0 (pa_cons (pv 2) (pa_cons (pv 3) pa_nil))) pa_nil)) rfl)
    (pss_one (ps_if ((pw_or (pt_not (pt_val (pe_call q.tr.ok (hr.mono (by decide)) (by rfl) q.tr.gl q.tr.kp q.tr.bd .nil pass0 (pa_cons (pv 3) (pa_cons (pv 4) pa_nil))) (fun _ => rfl))) (pw_or1 (pt_not (pt_val (pe_call q.led.ok (hr.mono (by decide)) (by rfl) q.led.gl q.led.kp q.led.bd .nil pass0 (pa_cons (pv 2) (pa_cons (pv 3) (pa_cons (pv 4) (pa_cons (pv 5) pa_nil))))) (fun _ => rfl)))))).pt (pss_one (ps_ret pe_bl)) pss_nil))))))
    (pss_cons (ps_set (i := 6) nd rfl (Or.inl rfl) (pe_call q.made.ok (hr.mono (by decide)) (by rfl) q.made.gl q.made.kp q.made.bd .nil pass0 (pa_cons (pe_ix ix_tup (pe_call q.wri.ok (hr.mono (by decide)) (by rfl) q.wri.gl q.wri.kp q.wri.bd .nil pass0 (pa_cons pe_int pa_nil)) pe_int (fun _ _ => rfl)) pa_nil)))
    (pss_cons (ps_set (i := 7) nd rfl (Or.inl rfl) (pe_tup (pa_cons (pe_tup (pa_cons pe_str (pa_cons pe_str pa_nil))) (pa_cons (pe_tup (pa_cons pe_str (pa_cons pe_str pa_nil))) (pa_cons (pe_tup (pa_cons pe_str (pa_cons pe_str pa_nil))) pa_nil)))))
    (pss_cons (ps_if ((pw_or (pt_cmpR (op_neD hr.units) (pe_call q.ringc.ok (hr.mono (by decide)) (by rfl) q.ringc.gl q.ringc.kp q.ringc.bd .nil pass0 (pa_cons (pv 6) (pa_cons (pv 7) (pa_cons (pe_tup (pa_cons pe_str (pa_cons pe_str pa_nil))) pa_nil)))) (pe_tup (pa_cons pe_str (pa_cons pe_str (pa_cons pe_str (pa_cons pe_str pa_nil))))) (nomark _)) (pw_or1 (pt_cmpR (op_neD hr.units) (pe_call q.wayin.ok (hr.mono (by decide)) (by rfl) q.wayin.gl q.wayin.kp q.wayin.bd .nil pass0 (pa_cons (pv 6) (pa_cons (pv 7) (pa_cons pe_str (pa_cons pe_str pa_nil))))) (pe_tup (pa_cons pe_str (pa_cons pe_str (pa_cons pe_str (pa_cons pe_str pa_nil))))) (nomark _))))).pt (pss_one (ps_ret pe_bl)) pss_nil)
    (pss_cons (ps_if (pt_cmpR (op_neD hr.units) (pe_call q.cutc.ok (hr.mono (by decide)) (by rfl) q.cutc.gl q.cutc.kp q.cutc.bd .nil pass0 (pa_cons (pv 6) (pa_cons (pv 7) (pa_cons (pe_tup (pa_cons pe_str (pa_cons pe_str pa_nil))) pa_nil)))) (pe_tup (pa_cons (pe_tup (pa_cons pe_str (pa_cons pe_str pa_nil))) (pa_cons (pe_tup (pa_cons pe_str (pa_cons pe_str pa_nil))) (pa_cons (pe_tup (pa_cons pe_str (pa_cons pe_str pa_nil))) pa_nil)))) (nomark _)) (pss_one (ps_ret pe_bl)) pss_nil)
    (pss_one (ps_ret (pe_cmpR (op_eqD hr.units) (pe_call q.sideof.ok (hr.mono (by decide)) (by rfl) q.sideof.gl q.sideof.kp q.sideof.bd .nil pass0 (pa_cons (pv 6) (pa_cons (pv 7) (pa_cons (pe_tup (pa_cons pe_str (pa_cons pe_str pa_nil))) (pa_cons pe_str pa_nil))))) (pe_tup (pa_cons pe_str (pa_cons pe_str pa_nil))) (nomark _))))))))), ?_⟩)
  · obtain ⟨a, ns, rfl, _⟩ := h
    rfl
  · obtain ⟨a, ns, rfl, hS, k⟩ := h
    rw [show L2.start NLaw [V.ref a] = [some (.ref a), none, none, none, none, none, none, none] from rfl]
    walk_at "rd"
    with_reducible refine Rd.for' (Rd.irng' ?_)
    walk_at "rd"
    refine ⟨_, _, rfl, Or.inl hS, ?_⟩
    walk_at "rd"
    refine ⟨_, _, rfl, ?_⟩
    walk_at "rd"
    refine ⟨_, _, rfl, ?_⟩
    walk_at "rd"
    generalize hj : (if (if (((ns.map V.int).length : Nat) : Int) < 2 then (((ns.map V.int).length : Nat) : Int) else 2) > 1 then (if (((ns.map V.int).length : Nat) : Int) < 2 then (((ns.map V.int).length : Nat) : Int) else 2) else 1) = j
    have hj2 : 1 ≤ j ∧ j ≤ 2 := by
      rw [← hj]
      split <;> split <;> omega
    refine ⟨j, rfl, by omega, by omega, ?_⟩
    refine for_it walk_range (fun i σ H' => (∃ t u v x y, σ = [some (.ref a), t, u, v, x, y, none, none]) ∧ Ex H H') ⟨⟨none, none, none, none, none, rfl⟩, Ex.refl _⟩ (fun _ _ _ _ _ => trivial) (fun i y σ H0 H0' hi hP hY => ?_) (fun σ H9 hP => ?_)
    · obtain ⟨⟨t, u, v, x, y, rfl⟩, e0⟩ := hP
      obtain ⟨rfl, rfl⟩ := hY
      walk_at "rd"
      dsimp only [List.set_cons_succ, List.set_cons_zero]
      refine ⟨a, _, ns, rfl, by omega, by omega, sql_ex e0 hS, fun p l s' np mp hdl => ?_⟩
      have e1 := Ex.new (o := dice l s' 0) np
      have hdp : HasDice (upd H0' p (dice l s' 0)) p := ⟨l, s', 0, hdl, upd_same⟩
      generalize upd H0' p (dice l s' 0) = H1 at e1 hdp ⊢
      walk_at "rd"
      dsimp only [List.set_cons_succ, List.set_cons_zero]
      walk_at "rd"
      refine ⟨p, 6, 4, rfl, hdp, by decide, by decide, by decide, fun d H3 ks zs x3 pl ok hin hl dn => ?_⟩
      walk_at "rd"
      dsimp only [List.set_cons_succ, List.set_cons_zero]
      refine Rd.par2 ?_
      walk_at "rd"
      refine ⟨p, d, ks, zs, rfl, x3.at_, pl, ok, fun t1 H4 es x4 h4 ta4 tr4 => ?_⟩
      have pl4 := pl.ex x4.ex
      walk_at "rd"
      refine ⟨p, d, ks, zs, rfl, x4.at_, pl4, ok, fun t2 H5 fs x5 h5 ta5 tr5 => ?_⟩
      have pl5 := pl4.ex x5.ex
      have h45 := x5.ex _ _ h4
      have ta45 := ta4.ex x5.ex
      have l5 := (x3.trans x4).trans x5
      walk_at "rd"
      refine ⟨_, _, rfl, ?_⟩
      dsimp only [List.set_cons_succ, List.set_cons_zero]
      walk_at "rd"
      have PT : PlTree (wo p H5) d t1 ks zs es := ⟨pl5, ok, h45, ta45, tr4⟩
      refine ⟨d, t1, ks, zs, es, rfl, PT.ex (wo_in p _), fun H6 e6 => ⟨_, rfl, ?_⟩⟩
      have x6 : DX p H5 H6 := DX.of e6 x5.at_
      refine Rd.iteF (by decide) ?_
      walk_at "rd"
      refine ⟨p, d, t1, t2, ks, zs, es, fs, rfl, x6.at_, PT.ex x6.ex, x6.ex _ _ h5, ta5.ex x6.ex, tr5, fun H7 x7 => ⟨_, rfl, ?_⟩⟩
      refine Rd.iteF (by decide) ?_
      exact ⟨⟨_, _, _, _, _, rfl⟩, e0.trans (past_dx np e1 ((l5.trans x6).trans x7))⟩
    · obtain ⟨⟨t, u, v, x, y, rfl⟩, e0⟩ := hP
      walk_at "rd"
      refine ⟨rfl, fun q1 d tb H1 zs e1 hq1 pl hz dn => ?_⟩
      walk_at "rd"
      refine Rd.ixt (SqT.of hq1) rfl ?_
      walk_at "rd"
      refine ⟨d, kiteK, zs, rfl, pl, by rw [hz]; exact kite_ok, fun wK H2 e2 hK _ => ?_⟩
      walk_at "rd"
      dsimp only [List.set_cons_succ, List.set_cons_zero]
      walk_at "rd"
      refine ⟨small64 (n := 2) (by decide), fun v1 gv1 => ?_⟩
      have ev1 : Ex H2 (upd H2 v1 (.tup [.str "a", .str "b"])) := Ex.new gv1
      have cv1 : (upd H2 v1 (.tup [.str "a", .str "b"])) v1 = some (.tup [.str "a", .str "b"]) := upd_same
      generalize upd H2 v1 (.tup [.str "a", .str "b"]) = H3 at ev1 cv1 ⊢
      walk_at "rd"
      refine ⟨small64 (n := 2) (by decide), fun v2 gv2 => ?_⟩
      have ev2 : Ex H3 (upd H3 v2 (.tup [.str "b", .str "d"])) := Ex.new gv2
      have cv2 : (upd H3 v2 (.tup [.str "b", .str "d"])) v2 = some (.tup [.str "b", .str "d"]) := upd_same
      generalize upd H3 v2 (.tup [.str "b", .str "d"]) = H4 at ev2 cv2 ⊢
      walk_at "rd"
      refine ⟨small64 (n := 2) (by decide), fun v3 gv3 => ?_⟩
      have ev3 : Ex H4 (upd H4 v3 (.tup [.str "c", .str "d"])) := Ex.new gv3
      have cv3 : (upd H4 v3 (.tup [.str "c", .str "d"])) v3 = some (.tup [.str "c", .str "d"]) := upd_same
      generalize upd H4 v3 (.tup [.str "c", .str "d"]) = H5 at ev3 cv3 ⊢
      walk_at "rd"
      refine ⟨small64 (n := 3) (by decide), fun ch gch => ?_⟩
      have ech : Ex H5 (upd H5 ch (.tup [.ref v1, .ref v2, .ref v3])) := Ex.new gch
      have cch : (upd H5 ch (.tup [.ref v1, .ref v2, .ref v3])) ch = some (.tup [.ref v1, .ref v2, .ref v3]) := upd_same
      generalize upd H5 ch (.tup [.ref v1, .ref v2, .ref v3]) = H6 at ech cch ⊢
      walk_at "rd"
      dsimp only [List.set_cons_succ, List.set_cons_zero]
      have E26 : Ex H2 H6 := ((ev1.trans ev2).trans ev3).trans ech
      have d1 := (ev2.trans (ev3.trans ech)) _ _ cv1
      have d2 := (ev3.trans ech) _ _ cv2
      have d3 := ech _ _ cv3
      have TA6 : TreeAt CW H6 wK ch kiteK zs [(v1, ("a", "b")), (v2, ("b", "d")), (v3, ("c", "d"))] := by
        refine ⟨hK.ex E26, cch, fun r hr => ?_, by rw [hz]; exact chain_tr⟩
        rcases List.mem_cons.mp hr with rfl | hr
        · exact d1
        rcases List.mem_cons.mp hr with rfl | hr
        · exact d2
        rw [List.mem_singleton.mp hr]
        exact d3
      have knd := kite_ok.knd
      have TO : OwG.TreeOk kiteK chainE := chain_tr.tree kite_ok
      have nmK : ∀ k ∈ kiteK, nameB k = true := kite_ok.names
      walk_at "rd"
      refine ⟨small64 (n := 2) (by decide), fun p1 gp1 => ?_⟩
      have ep1 : Ex H6 (upd H6 p1 (.tup [.str "a", .str "c"])) := Ex.new gp1
      have cp1 : (upd H6 p1 (.tup [.str "a", .str "c"])) p1 = some (.tup [.str "a", .str "c"]) := upd_same
      generalize upd H6 p1 (.tup [.str "a", .str "c"]) = H7 at ep1 cp1 ⊢
      walk_at "rd"
      refine ⟨wK, ch, p1, (("a" : Str), ("c" : Str)), kiteK, zs, _, rfl, TA6.ex ep1, cp1, by rw [hz]; decide +kernel, (by decide +kernel : ¬ (("a" : Str), ("c" : Str)) ∈ chainE), fun r1 H8 l k1 e8 wy m1 hr1 => ?_⟩
      have el : l = [("a" : Str), "b", "d", "c"] := (show WayOk kiteK chainE "c" "a" l from wy).way.uniq knd TO way_ac
      subst el
      have ek : k1 = 0 := m1.uniq (by decide +kernel) min_ac
      subst ek
      rw [turn_ac] at hr1
      walk_at "rd"
      refine ⟨small64 (n := 4) (by decide), fun p2 gp2 => ?_⟩
      have ep2 : Ex H8 (upd H8 p2 (.tup [.str "a", .str "b", .str "d", .str "c"])) := Ex.new gp2
      have cp2 : (upd H8 p2 (.tup [.str "a", .str "b", .str "d", .str "c"])) p2 = some (.tup [.str "a", .str "b", .str "d", .str "c"]) := upd_same
      generalize upd H8 p2 (.tup [.str "a", .str "b", .str "d", .str "c"]) = H9a at ep2 cp2 ⊢
      refine neT_same (ep2 _ _ hr1) (m := ["a", "b", "d", "c"]) cp2 (by decide +kernel) rfl ⟨_, rfl, ?_⟩
      refine Rd.iteF (by decide) ?_
      walk_at "rd"
      have TA9 := (TA6.ex ep1).ex (e8.trans ep2)
      refine ⟨wK, ch, "c", "a", kiteK, zs, _, rfl, TA9, by decide +kernel, by decide +kernel, fun r2 H10 l e10 wy2 hr2 => ?_⟩
      have el : l = [("c" : Str), "d", "b", "a"] := (show WayOk kiteK chainE "a" "c" l from wy2).way.uniq knd TO way_ca
      subst el
      walk_at "rd"
      refine ⟨small64 (n := 4) (by decide), fun p3 gp3 => ?_⟩
      have ep3 : Ex H10 (upd H10 p3 (.tup [.str "c", .str "d", .str "b", .str "a"])) := Ex.new gp3
      have cp3 : (upd H10 p3 (.tup [.str "c", .str "d", .str "b", .str "a"])) p3 = some (.tup [.str "c", .str "d", .str "b", .str "a"]) := upd_same
      generalize upd H10 p3 (.tup [.str "c", .str "d", .str "b", .str "a"]) = H11 at ep3 cp3 ⊢
      refine neT_same (ep3 _ _ hr2) (m := ["c", "d", "b", "a"]) cp3 (by decide +kernel) rfl ⟨_, rfl, ?_⟩
      refine Rd.iteF (by decide) ?_
      have TA11 := TA9.ex (e10.trans ep3)
      walk_at "rd"
      refine ⟨small64 (n := 2) (by decide), fun p4 gp4 => ?_⟩
      have ep4 : Ex H11 (upd H11 p4 (.tup [.str "b", .str "d"])) := Ex.new gp4
      have cp4 : (upd H11 p4 (.tup [.str "b", .str "d"])) p4 = some (.tup [.str "b", .str "d"]) := upd_same
      generalize upd H11 p4 (.tup [.str "b", .str "d"]) = H12 at ep4 cp4 ⊢
      walk_at "rd"
      refine ⟨wK, ch, p4, (("b" : Str), ("d" : Str)), kiteK, zs, _, rfl, TA11.ex ep4, cp4, (by decide +kernel : (("b" : Str), ("d" : Str)) ∈ chainE), fun r3 H13 l cs e13 lm hr3 tcs mc => ?_⟩
      have mc2 : cs.map (·.2) = [(("a" : Str), ("c" : Str)), ("b", "c"), ("b", "d")] := by
        rw [mc, hz, ← acr_ab]
        refine List.filter_congr fun r hr => acr_same (ks := kiteK) (.inl fun y _ => ?_) (chain_two r hr)
        exact (lm y).trans (side_bd y)
      walk_at "rd"
      refine ⟨small64 (n := 2) (by decide), fun w1 gw1 => ?_⟩
      have ew1 : Ex H13 (upd H13 w1 (.tup [.str "a", .str "c"])) := Ex.new gw1
      have cw1 : (upd H13 w1 (.tup [.str "a", .str "c"])) w1 = some (.tup [.str "a", .str "c"]) := upd_same
      generalize upd H13 w1 (.tup [.str "a", .str "c"]) = H14 at ew1 cw1 ⊢
      walk_at "rd"
      refine ⟨small64 (n := 2) (by decide), fun w2 gw2 => ?_⟩
      have ew2 : Ex H14 (upd H14 w2 (.tup [.str "b", .str "c"])) := Ex.new gw2
      have cw2 : (upd H14 w2 (.tup [.str "b", .str "c"])) w2 = some (.tup [.str "b", .str "c"]) := upd_same
      generalize upd H14 w2 (.tup [.str "b", .str "c"]) = H15 at ew2 cw2 ⊢
      walk_at "rd"
      refine ⟨small64 (n := 2) (by decide), fun w3 gw3 => ?_⟩
      have ew3 : Ex H15 (upd H15 w3 (.tup [.str "b", .str "d"])) := Ex.new gw3
      have cw3 : (upd H15 w3 (.tup [.str "b", .str "d"])) w3 = some (.tup [.str "b", .str "d"]) := upd_same
      generalize upd H15 w3 (.tup [.str "b", .str "d"]) = H16 at ew3 cw3 ⊢
      walk_at "rd"
      refine ⟨small64 (n := 3) (by decide), fun tt gtt => ?_⟩
      have ett : Ex H16 (upd H16 tt (.tup [.ref w1, .ref w2, .ref w3])) := Ex.new gtt
      have ctt : (upd H16 tt (.tup [.ref w1, .ref w2, .ref w3])) tt = some (.tup [.ref w1, .ref w2, .ref w3]) := upd_same
      generalize upd H16 tt (.tup [.ref w1, .ref w2, .ref w3]) = H17 at ett ctt ⊢
      have tw17 : TA H17 [(w1, (("a" : Str), ("c" : Str))), (w2, (("b" : Str), ("c" : Str))), (w3, (("b" : Str), ("d" : Str)))] := fun r hr => by
        rcases List.mem_cons.mp hr with rfl | hr
        · exact (ew2.trans (ew3.trans ett)) _ _ cw1
        rcases List.mem_cons.mp hr with rfl | hr
        · exact (ew3.trans ett) _ _ cw2
        rw [List.mem_singleton.mp hr]
        exact ett _ _ cw3
      have e37 : Ex H13 H17 := ((ew1.trans ew2).trans ew3).trans ett
      refine neP_same (e37 _ _ hr3) (m := [(w1, (("a" : Str), ("c" : Str))), (w2, (("b" : Str), ("c" : Str))), (w3, (("b" : Str), ("d" : Str)))]) ctt (tcs.ex e37) tw17 (fun r hr => ?_) mc2 ⟨_, rfl, ?_⟩
      · rw [mc2] at hr
        exact (show ∀ r ∈ [(("a" : Str), ("c" : Str)), ("b", "c"), ("b", "d")], okP r from fun r hr => ⟨(show ∀ r ∈ [(("a" : Str), ("c" : Str)), ("b", "c"), ("b", "d")], nameB r.1 = true by decide +kernel) r hr, (show ∀ r ∈ [(("a" : Str), ("c" : Str)), ("b", "c"), ("b", "d")], nameB r.2 = true by decide +kernel) r hr⟩) r hr
      refine Rd.iteF (by decide) ?_
      have TA17 := (TA11.ex ep4).ex (e13.trans e37)
      walk_at "rd"
      refine ⟨small64 (n := 2) (by decide), fun p5 gp5 => ?_⟩
      have ep5 : Ex H17 (upd H17 p5 (.tup [.str "b", .str "d"])) := Ex.new gp5
      have cp5 : (upd H17 p5 (.tup [.str "b", .str "d"])) p5 = some (.tup [.str "b", .str "d"]) := upd_same
      generalize upd H17 p5 (.tup [.str "b", .str "d"]) = H18 at ep5 cp5 ⊢
      walk_at "rd"
      refine ⟨wK, ch, p5, (("b" : Str), ("d" : Str)), "c", kiteK, zs, _, rfl, TA17.ex ep5, cp5, (by decide +kernel : (("b" : Str), ("d" : Str)) ∈ chainE), by decide +kernel, fun r4 H19 l e19 so ln lm2 hr4 => ?_⟩
      have el : l = [("c" : Str), "d"] := sort_same so ln (by decide +kernel) (by decide +kernel) fun y => (lm2 y).trans (side_c y)
      subst el
      walk_at "rd"
      refine ⟨small64 (n := 2) (by decide), fun p6 gp6 => ?_⟩
      have ep6 : Ex H19 (upd H19 p6 (.tup [.str "c", .str "d"])) := Ex.new gp6
      have cp6 : (upd H19 p6 (.tup [.str "c", .str "d"])) p6 = some (.tup [.str "c", .str "d"]) := upd_same
      generalize upd H19 p6 (.tup [.str "c", .str "d"]) = H20 at ep6 cp6 ⊢
      refine ⟨_, _, .tup (SqT.of (ep6 _ _ hr4)) (dp_strsT ["c", "d"]), .tup (SqT.of cp6) (dp_strsT ["c", "d"]), shaped_tup (by decide +kernel), shaped_tup (by decide +kernel), ?_⟩
      have ee : PyData.eqv (.tuple ([("c" : Str), "d"].map PyData.str)) (.tuple ([("c" : Str), "d"].map PyData.str)) = true := by
        generalize [("c" : Str), "d"] = l
        simp [PyData.eqv, eqvAll_strs]
      rw [ee]
      exact k H20
end
end OwW

/-! The law's own call, for a def that is called where no guard stands. -/
namespace OwX
open PySem PySem.Spec PyProof.Rows L2
/-- the one object that may be tracked at the start is the list that is handed in -/
def Sole (K : PySem.W.Frag) (H : Hp) (a : Addr) : Prop := ∀ b, H b = none ∨ (b = a ∧ K.lookup b = none ∧ ∃ ob xs, H b = some (.frz ob (.lst xs)))
section
variable {P : Program} {w : World} {K : PySem.W.Frag} {mg mb : Str → Option Value} {a fa : Addr} {s : Shared} {H : Hp} {us : List Value} {ns : List Int} {fd : FuncData} {k : Nat} {x : Str} {sp : Sp}
theorem sole_hid {b : Addr} {o : Obj} (z : Sole K H a) (g : s.heap.get? b = some o) (h : b = a → K.lookup b = none → False) : (hidT s.heap H).get? b = some o := by
  rcases z b with n | ⟨e, n, _⟩
  · exact hidT_get g n
  · exact (h e n).elim
theorem sole_ns {b : Addr} {m : Str → Option Value} (z : Sole K H a) (ga : s.heap.get? a = some { cls := .type "list", data := .seq us.toArray }) (n : s.heap.Ns b m) : (hidT s.heap H).Ns b m := by
  obtain ⟨o, es, ep, g, hd, rest⟩ := n
  refine ⟨o, es, ep, sole_hid z g fun e _ => ?_, hd, rest⟩
  rw [e, ga] at g
  cases g
  exact nomatch hd
theorem sole_env (z : Sole K H a) (KX : K.In s.heap) (ga : s.heap.get? a = some { cls := .type "list", data := .seq us.toArray }) (hm : s.heap.Ns mainGlobals mg) (hbn : s.heap.Ns builtinsNs mb) (hbt : ∀ y : Str, y ≠ "__name__" → mb y = bootBuiltins y) (hl : s.heap.NoLimit)
    (hg : s.gens = #[]) (ok : HOk P w H s.heap) : K.In (hidT s.heap H) ∧ (hidT s.heap H).Ns mainGlobals mg ∧ Env0 P w K mg (hidT s.heap H) callerA [] s H := by
  have k1 : K.In (hidT s.heap H) := fun b o e => sole_hid z (KX b o e) fun _ n => by rw [n] at e; cases e
  have k2 := sole_ns z ga hm
  obtain ⟨mc, l1, l2⟩ := hl
  exact ⟨k1, k2, { frames := rfl, mod := ⟨k1, k2, ⟨mb, sole_ns z ga hbn, hbt⟩, ⟨mc, sole_ns z ga l1, l2⟩⟩, bs := fun _ _ e => of_hidT e, bsz := Nat.le_of_eq (hidT_size _ _), funs := trivial, frf := (fun _ hb => nomatch hb), hok := ok, bare := AllBare.of_eq hg }⟩
/-- the object at a, tracked or the module's own -/
theorem sole_at (ga : s.heap.get? a = some { cls := .type "list", data := .seq us.toArray }) (KX : K.In s.heap) (hi : IntsAre us ns) (hz : ns.length ≤ sizeLine) : ∃ H, Sole K H a ∧ SqL K H a (ns.map V.int) ∧ HOk P w H s.heap := by
  have rv := vals_ints hi
  have lz := hi.length
  cases hk : K.lookup a with
  | some o =>
    have g := KX a o hk
    rw [ga] at g
    cases g
    refine ⟨fun _ => none, fun _ => Or.inl rfl, Or.inr ⟨_, us.toArray, _, hk, rfl, rfl, rfl, ?_, ?_⟩, fun _ _ e => nomatch e⟩
    · rw [List.size_toArray]
      omega
    · rw [List.toList_toArray]
      exact rv
  | none =>
    refine ⟨upd (fun _ => none) a (.frz { cls := .type "list", data := .seq us.toArray } (.lst (ns.map V.int))), fun b => ?_, Or.inl (Or.inr ⟨_, upd_same⟩), fun b u e => ?_⟩
    · by_cases h : b = a
      · subst h
        exact Or.inr ⟨rfl, hk, _, _, upd_same⟩
      · exact Or.inl (upd_ne h)
    · by_cases h : b = a
      · subst h
        rw [upd_same] at e
        cases e
        exact ⟨ga, by rw [List.length_map]; exact hz, us, _, rv, ga⟩
      · rw [upd_ne h] at e
        cases e
/-- the law's def answers True, and what stood before still stands -/
theorem law_callG (KX : K.In s.heap) (hm : s.heap.Ns mainGlobals mg) (hbn : s.heap.Ns builtinsNs mb) (hbt : ∀ y : Str, y ≠ "__name__" → mb y = bootBuiltins y) (hl : s.heap.NoLimit) (hg : s.gens = #[]) (ga : s.heap.get? a = some { cls := .type "list", data := .seq us.toArray })
    (hi : IntsAre us ns) (hz : ns.length ≤ sizeLine) (hr : Room k callerA) (F : ∀ base : Heap, K.In base → base.Ns mainGlobals mg → GFn P w K mg base (L2.CX P w) k fa fd [x] sp) (hb : ∀ (s : Shared) (u : Value), BindsTo s fd ⟨[u], []⟩ [(x, u)])
    (hs : ∀ H : Hp, SqL K H a (ns.map V.int) → sp [.ref a] H (fun v _ => v = .bl true) fun _ _ _ => False) :
    codeAny (model P w) callerA (.call (.ref fa) ⟨[.ref a], []⟩) (fun r s' => r = .ok (.ret (.bool true)) ∧ OldK s.heap s'.heap ∧ s'.os = s.os ∧ AllBare s'.gens) s := by
  obtain ⟨H, z, sq, ok⟩ := sole_at (P := P) (w := w) ga KX hi hz
  obtain ⟨k1, k2, e0⟩ := sole_env z KX ga hm hbn hbt hl hg ok
  refine codeAny_mono ((F _ k1 k2).run callerA [] s H ⟨[.ref a], []⟩ [.ref a] [.ref a] _ _ hr rfl e0 (hb s (.ref a)) (.cons rfl .nil) (hs H sq)) fun r s' h => ?_
  rcases r with e | fl
  · obtain ⟨_, _, _, _, _, _, _, _, _, _, _, _, no⟩ := (show L2.CX P w [] H s (fun _ _ _ => False) e s' from h)
    exact no.elim
  rcases fl with _ | _ | _ | u
  · exact h.elim
  · exact h.elim
  · exact h.elim
  obtain ⟨v, H', ho, hbare, un, ok', rv, q⟩ := h
  have q2 : v = .bl true := q
  subst q2
  cases (show u = Value.bool true from rv)
  refine ⟨rfl, OldK.of_keep fun b o g => ?_, ho, hbare⟩
  rcases z b with n | ⟨_, _, ob, xs, n⟩
  · exact un.keep b o g n (fun m => nomatch m) (by simp)
  · have t1 := (show ObjOk P w H s.heap b (.frz ob (.lst xs)) from ok b _ n).1
    have t2 := (show ObjOk P w H' s'.heap b (.frz ob (.lst xs)) from ok' b _ (un.frzs b ob _ n)).1
    rw [g] at t1
    cases t1
    exact t2
/-- the goal that is left of a law's row -/
theorem walk_ofG {l : PySem.W.OpenLaw} {n : Nat} {q : Program} {loose : List Str} {XP : (Str → Option Value) → Heap → Prop} {YP : World → Heap → Prop} {d : DefRec} {KK : Params → PySem.W.Frag} {spK : PySem.W.Frag → Sp} (hn : l.most = some n) (hn2 : n ≤ sizeLine) (hdf : d.params.defaults = []) (hr : Room k callerA)
    (hY : ∀ (w : World) (h : Heap), YP w h → (KK w.params).In h)
    (F : ∀ (w : World) (mg : Str → Option Value) (fa : Addr) (h : Heap), (KK w.params).In h → h.Ns mainGlobals mg → mg d.name = some (.ref fa) →
      ∃ fd : FuncData, (∀ (s : Shared) (u : Value), BindsTo s fd ⟨[u], []⟩ [(x, u)]) ∧ ∀ base : Heap, (KK w.params).In base → base.Ns mainGlobals mg → GFn l.prog w (KK w.params) mg base (L2.CX l.prog w) k fa fd [x] (spK (KK w.params)))
    (hs : ∀ (K : PySem.W.Frag) (H : Hp) (a : Addr) (ns : List Int), SqL K H a (ns.map V.int) → spK K [.ref a] H (fun v _ => v = .bl true) fun _ _ _ => False) : PySem.W.WalkO q loose XP YP l.row.toRowW d [] (fun f vs => PySem.call f vs) := by
  refine Att.attach_call hn hdf fun w _ s1 mg mb fa _ _ _ _ a us ns G Y _ _ _ hmg ga hi hlen hg => ?_
  have KX := hY w _ Y
  obtain ⟨fd, hb, GF⟩ := F w mg fa _ KX G.T.g hmg
  exact law_callG KX G.T.g G.T.b G.T.builtins G.T.nolimit hg ga hi (Nat.le_trans hlen hn2) hr GF hb fun H sq => hs _ H a ns sq
end
end OwX

namespace OwW
open PySem PyProof.Rows L2 L2H OwX Rd Evl
set_option maxHeartbeats 0 in
theorem all_mk {l : PySem.W.OpenLaw} {w : World} {K : PySem.W.Frag} {h : Heap} {mg : Str → Option Value} {fa C_InvalidOperation C_Web f1 f2 f3 f4 f5 f6 f7 f8 f9 f10 f11 f12 f13 f14 f15 f16 f17 f18 f19 f20 f21 f22 f23 f24 f25 f26 f27 f28 f29 f30 f31 f32 f33 f34 f35 f36 f37 f38 f39 f40 f41 f42 f43 f44 f45 f46 f47 f48 f49 f50 f51 f52 f53 f54 f55 p40 p41 : Addr} {fod1 fan1 fod2 fan2 fod3 fan3 fod4 fan4 fod5 fan5 fod6 fan6 fod7 fan7 fod8 fan8 fod9 fan9 fod10 fan10 fod11 fan11 fod12 fan12 fod13 fan13 fod14 fan14 fod15 fan15 fod16 fan16 fod17 fan17 fod18 fan18 fod19 fan19 fod20 fan20 fod21 fan21 fod22 fan22 fod23 fan23 fod24 fan24 fod25 fan25 fod26 fan26 fod27 fan27 fod28 fan28 fod29 fan29 fod30 fan30 fod31 fan31 fod32 fan32 fod33 fan33 fod34 fan34 fod35 fan35 fod36 fan36 fod37 fan37 fod38 fan38 fod39 fan39 fod40 fan40 fod41 fan41 fod42 fan42 fod43 fan43 fod44 fan44 fod45 fan45 fod46 fan46 fod47 fan47 fod48 fan48 fod49 fan49 fod50 fan50 fod51 fan51 fod52 fan52 fod53 fan53 fod54 fan54 fod55 fan55 : Option Addr} {fsl1 fsl2 fsl3 fsl4 fsl5 fsl6 fsl7 fsl8 fsl9 fsl10 fsl11 fsl12 fsl13 fsl14 fsl15 fsl16 fsl17 fsl18 fsl19 fsl20 fsl21 fsl22 fsl23 fsl24 fsl25 fsl26 fsl27 fsl28 fsl29 fsl30 fsl31 fsl32 fsl33 fsl34 fsl35 fsl36 fsl37 fsl38 fsl39 fsl40 fsl41 fsl42 fsl43 fsl44 fsl45 fsl46 fsl47 fsl48 fsl49 fsl50 fsl51 fsl52 fsl53 fsl54 fsl55 : Array (Option Value)} {foc1 fdc1 fpm1 fct1 fcd1 fkv1 foc2 fdc2 fpm2 fct2 fcd2 fkv2 foc3 fdc3 fpm3 fct3 fcd3 fkv3 foc4 fdc4 fpm4 fct4 fcd4 fkv4 foc5 fdc5 fpm5 fct5 fcd5 fkv5 foc6 fdc6 fpm6 fct6 fcd6 fkv6 foc7 fdc7 fpm7 fct7 fcd7 fkv7 foc8 fdc8 fpm8 fct8 fcd8 fkv8 foc9 fdc9 fpm9 fct9 fcd9 fkv9 foc10 fdc10 fpm10 fct10 fcd10 fkv10 foc11 fdc11 fpm11 fct11 fcd11 fkv11 foc12 fdc12 fpm12 fct12 fcd12 fkv12 foc13 fdc13 fpm13 fct13 fcd13 fkv13 foc14 fdc14 fpm14 fct14 fcd14 fkv14 foc15 fdc15 fpm15 fct15 fcd15 fkv15 foc16 fdc16 fpm16 fct16 fcd16 fkv16 foc17 fdc17 fpm17 fct17 fcd17 fkv17 foc18 fdc18 fpm18 fct18 fcd18 fkv18 foc19 fdc19 fpm19 fct19 fcd19 fkv19 foc20 fdc20 fpm20 fct20 fcd20 fkv20 foc21 fdc21 fpm21 fct21 fcd21 fkv21 foc22 fdc22 fpm22 fct22 fcd22 fkv22 foc23 fdc23 fpm23 fct23 fcd23 fkv23 foc24 fdc24 fpm24 fct24 fcd24 fkv24 foc25 fdc25 fpm25 fct25 fcd25 fkv25 foc26 fdc26 fpm26 fct26 fcd26 fkv26 foc27 fdc27 fpm27 fct27 fcd27 fkv27 foc28 fdc28 fpm28 fct28 fcd28 fkv28 foc29 fdc29 fpm29 fct29 fcd29 fkv29 foc30 fdc30 fpm30 fct30 fcd30 fkv30 foc31 fdc31 fpm31 fct31 fcd31 fkv31 foc32 fdc32 fpm32 fct32 fcd32 fkv32 foc33 fdc33 fpm33 fct33 fcd33 fkv33 foc34 fdc34 fpm34 fct34 fcd34 fkv34 foc35 fdc35 fpm35 fct35 fcd35 fkv35 foc36 fdc36 fpm36 fct36 fcd36 fkv36 foc37 fdc37 fpm37 fct37 fcd37 fkv37 foc38 fdc38 fpm38 fct38 fcd38 fkv38 foc39 fdc39 fpm39 fct39 fcd39 fkv39 foc40 fdc40 fpm40 fct40 fcd40 fkv40 foc41 fdc41 fpm41 fct41 fcd41 fkv41 foc42 fdc42 fpm42 fct42 fcd42 fkv42 foc43 fdc43 fpm43 fct43 fcd43 fkv43 foc44 fdc44 fpm44 fct44 fcd44 fkv44 foc45 fdc45 fpm45 fct45 fcd45 fkv45 foc46 fdc46 fpm46 fct46 fcd46 fkv46 foc47 fdc47 fpm47 fct47 fcd47 fkv47 foc48 fdc48 fpm48 fct48 fcd48 fkv48 foc49 fdc49 fpm49 fct49 fcd49 fkv49 foc50 fdc50 fpm50 fct50 fcd50 fkv50 foc51 fdc51 fpm51 fct51 fcd51 fkv51 foc52 fdc52 fpm52 fct52 fcd52 fkv52 foc53 fdc53 fpm53 fct53 fcd53 fkv53 foc54 fdc54 fpm54 fct54 fcd54 fkv54 foc55 fdc55 fpm55 fct55 fcd55 fkv55 : Value} {mt_MAX_LETTERS mt_MAX_PLACES mt_MAX_TIES : Tok} {r40 r41 : List Value} (X : K.In h) (G : h.Ns mainGlobals mg) (hfa : mg "law" = some (.ref fa))
    (gl1 : K.lookup f1 = some ⟨foc1, fod1, .func (PySem.W.fnOf "law" "law" (defArgs sLaw) (defBody sLaw) (defScope sLaw) .none fkv1 fdc1 fpm1 fan1 fcd1 fct1), fsl1⟩) (gc1 : PySem.W.codeIn K fcd1 "law" = true) (gk1 : PySem.W.keepIn K (.ref f1) = true)
    (gl2 : K.lookup f2 = some ⟨foc2, fod2, .func (PySem.W.fnOf "_law_dice" "_law_dice" (defArgs sDice) (defBody sDice) (defScope sDice) .none fkv2 fdc2 fpm2 fan2 fcd2 fct2), fsl2⟩) (gc2 : PySem.W.codeIn K fcd2 "_law_dice" = true) (gk2 : PySem.W.keepIn K (.ref f2) = true)
    (gl3 : K.lookup f3 = some ⟨foc3, fod3, .func (PySem.W.fnOf "_law_web" "_law_web" (defArgs sLWeb) (defBody sLWeb) (defScope sLWeb) .none fkv3 fdc3 fpm3 fan3 fcd3 fct3), fsl3⟩) (gc3 : PySem.W.codeIn K fcd3 "_law_web" = true) (gk3 : PySem.W.keepIn K (.ref f3) = true)
    (gl4 : K.lookup f4 = some ⟨foc4, fod4, .func (PySem.W.fnOf "_law_tree" "_law_tree" (defArgs sLTree) (defBody sLTree) (defScope sLTree) .none fkv4 fdc4 fpm4 fan4 fcd4 fct4), fsl4⟩) (gc4 : PySem.W.codeIn K fcd4 "_law_tree" = true) (gk4 : PySem.W.keepIn K (.ref f4) = true)
    (gl5 : K.lookup f5 = some ⟨foc5, fod5, .func (PySem.W.fnOf "_law_tree_right" "_law_tree_right" (defArgs sTR) (defBody sTR) (defScope sTR) .none fkv5 fdc5 fpm5 fan5 fcd5 fct5), fsl5⟩) (gc5 : PySem.W.codeIn K fcd5 "_law_tree_right" = true) (gk5 : PySem.W.keepIn K (.ref f5) = true)
    (gl6 : K.lookup f6 = some ⟨foc6, fod6, .func (PySem.W.fnOf "_law_led_right" "_law_led_right" (defArgs sLed) (defBody sLed) (defScope sLed) .none fkv6 fdc6 fpm6 fan6 fcd6 fct6), fsl6⟩) (gc6 : PySem.W.codeIn K fcd6 "_law_led_right" = true) (gk6 : PySem.W.keepIn K (.ref f6) = true)
    (gl7 : K.lookup f7 = some ⟨foc7, fod7, .func (PySem.W.fnOf "_law_made" "_law_made" (defArgs sMade) (defBody sMade) (defScope sMade) .none fkv7 fdc7 fpm7 fan7 fcd7 fct7), fsl7⟩) (gc7 : PySem.W.codeIn K fcd7 "_law_made" = true) (gk7 : PySem.W.keepIn K (.ref f7) = true)
    (gl8 : K.lookup f8 = some ⟨foc8, fod8, .func (PySem.W.fnOf "_law_written" "_law_written" (defArgs sLWri) (defBody sLWri) (defScope sLWri) .none fkv8 fdc8 fpm8 fan8 fcd8 fct8), fsl8⟩) (gc8 : PySem.W.codeIn K fcd8 "_law_written" = true) (gk8 : PySem.W.keepIn K (.ref f8) = true)
    (gl9 : K.lookup f9 = some ⟨foc9, fod9, .func (PySem.W.fnOf "ring_closed" "ring_closed" (defArgs sRingC) (defBody sRingC) (defScope sRingC) .none fkv9 fdc9 fpm9 fan9 fcd9 fct9), fsl9⟩) (gc9 : PySem.W.codeIn K fcd9 "ring_closed" = true) (gk9 : PySem.W.keepIn K (.ref f9) = true)
    (gl10 : K.lookup f10 = some ⟨foc10, fod10, .func (PySem.W.fnOf "way_in" "way_in" (defArgs sWayIn) (defBody sWayIn) (defScope sWayIn) .none fkv10 fdc10 fpm10 fan10 fcd10 fct10), fsl10⟩) (gc10 : PySem.W.codeIn K fcd10 "way_in" = true) (gk10 : PySem.W.keepIn K (.ref f10) = true)
    (gl11 : K.lookup f11 = some ⟨foc11, fod11, .func (PySem.W.fnOf "cut_closed" "cut_closed" (defArgs sCutC) (defBody sCutC) (defScope sCutC) .none fkv11 fdc11 fpm11 fan11 fcd11 fct11), fsl11⟩) (gc11 : PySem.W.codeIn K fcd11 "cut_closed" = true) (gk11 : PySem.W.keepIn K (.ref f11) = true)
    (gl12 : K.lookup f12 = some ⟨foc12, fod12, .func (PySem.W.fnOf "side_of" "side_of" (defArgs sSideOf) (defBody sSideOf) (defScope sSideOf) .none fkv12 fdc12 fpm12 fan12 fcd12 fct12), fsl12⟩) (gc12 : PySem.W.codeIn K fcd12 "side_of" = true) (gk12 : PySem.W.keepIn K (.ref f12) = true)
    (gl13 : K.lookup f13 = some ⟨foc13, fod13, .func (PySem.W.fnOf "_law_mixed" "_law_mixed" (defArgs sMixed) (defBody sMixed) (defScope sMixed) .none fkv13 fdc13 fpm13 fan13 fcd13 fct13), fsl13⟩) (gc13 : PySem.W.codeIn K fcd13 "_law_mixed" = true) (gk13 : PySem.W.keepIn K (.ref f13) = true)
    (gl14 : K.lookup f14 = some ⟨foc14, fod14, .func (PySem.W.fnOf "_law_names" "_law_names" (defArgs sLNames) (defBody sLNames) (defScope sLNames) .none fkv14 fdc14 fpm14 fan14 fcd14 fct14), fsl14⟩) (gc14 : PySem.W.codeIn K fcd14 "_law_names" = true) (gk14 : PySem.W.keepIn K (.ref f14) = true)
    (gl15 : K.lookup f15 = some ⟨foc15, fod15, .func (PySem.W.fnOf "_law_roll" "_law_roll" (defArgs sRoll) (defBody sRoll) (defScope sRoll) .none fkv15 fdc15 fpm15 fan15 fcd15 fct15), fsl15⟩) (gc15 : PySem.W.codeIn K fcd15 "_law_roll" = true) (gk15 : PySem.W.keepIn K (.ref f15) = true)
    (gl16 : K.lookup f16 = some ⟨foc16, fod16, .func (PySem.W.fnOf "_law_tie" "_law_tie" (defArgs sTie) (defBody sTie) (defScope sTie) .none fkv16 fdc16 fpm16 fan16 fcd16 fct16), fsl16⟩) (gc16 : PySem.W.codeIn K fcd16 "_law_tie" = true) (gk16 : PySem.W.keepIn K (.ref f16) = true)
    (gl17 : K.lookup f17 = some ⟨foc17, fod17, .func (PySem.W.fnOf "_law_pairs" "_law_pairs" (defArgs sPairs) (defBody sPairs) (defScope sPairs) .none fkv17 fdc17 fpm17 fan17 fcd17 fct17), fsl17⟩) (gc17 : PySem.W.codeIn K fcd17 "_law_pairs" = true) (gk17 : PySem.W.keepIn K (.ref f17) = true)
    (gl18 : K.lookup f18 = some ⟨foc18, fod18, .func (PySem.W.fnOf "_law_plain" "_law_plain" (defArgs sPlain) (defBody sPlain) (defScope sPlain) .none fkv18 fdc18 fpm18 fan18 fcd18 fct18), fsl18⟩) (gc18 : PySem.W.codeIn K fcd18 "_law_plain" = true) (gk18 : PySem.W.keepIn K (.ref f18) = true)
    (gl19 : K.lookup f19 = some ⟨foc19, fod19, .func (PySem.W.fnOf "_law_is_closing" "_law_is_closing" (defArgs sClos) (defBody sClos) (defScope sClos) .none fkv19 fdc19 fpm19 fan19 fcd19 fct19), fsl19⟩) (gc19 : PySem.W.codeIn K fcd19 "_law_is_closing" = true) (gk19 : PySem.W.keepIn K (.ref f19) = true)
    (gl20 : K.lookup f20 = some ⟨foc20, fod20, .func (PySem.W.fnOf "_law_way" "_law_way" (defArgs sLWay) (defBody sLWay) (defScope sLWay) .none fkv20 fdc20 fpm20 fan20 fcd20 fct20), fsl20⟩) (gc20 : PySem.W.codeIn K fcd20 "_law_way" = true) (gk20 : PySem.W.keepIn K (.ref f20) = true)
    (gl21 : K.lookup f21 = some ⟨foc21, fod21, .func (PySem.W.fnOf "_law_ring_form" "_law_ring_form" (defArgs sRingF) (defBody sRingF) (defScope sRingF) .none fkv21 fdc21 fpm21 fan21 fcd21 fct21), fsl21⟩) (gc21 : PySem.W.codeIn K fcd21 "_law_ring_form" = true) (gk21 : PySem.W.keepIn K (.ref f21) = true)
    (gl22 : K.lookup f22 = some ⟨foc22, fod22, .func (PySem.W.fnOf "_law_lots" "_law_lots" (defArgs sLots) (defBody sLots) (defScope sLots) .none fkv22 fdc22 fpm22 fan22 fcd22 fct22), fsl22⟩) (gc22 : PySem.W.codeIn K fcd22 "_law_lots" = true) (gk22 : PySem.W.keepIn K (.ref f22) = true)
    (gl23 : K.lookup f23 = some ⟨foc23, fod23, .func (PySem.W.fnOf "_law_across" "_law_across" (defArgs sLAcr) (defBody sLAcr) (defScope sLAcr) .none fkv23 fdc23 fpm23 fan23 fcd23 fct23), fsl23⟩) (gc23 : PySem.W.codeIn K fcd23 "_law_across" = true) (gk23 : PySem.W.keepIn K (.ref f23) = true)
    (gl24 : K.lookup f24 = some ⟨foc24, fod24, .func (PySem.W.fnOf "is_joining_tree" "is_joining_tree" (defArgs sIJT) (defBody sIJT) (defScope sIJT) .none fkv24 fdc24 fpm24 fan24 fcd24 fct24), fsl24⟩) (gc24 : PySem.W.codeIn K fcd24 "is_joining_tree" = true) (gk24 : PySem.W.keepIn K (.ref f24) = true)
    (gl25 : K.lookup f25 = some ⟨foc25, fod25, .func (PySem.W.fnOf "_law_told" "_law_told" (defArgs sTold) (defBody sTold) (defScope sTold) .none fkv25 fdc25 fpm25 fan25 fcd25 fct25), fsl25⟩) (gc25 : PySem.W.codeIn K fcd25 "_law_told" = true) (gk25 : PySem.W.keepIn K (.ref f25) = true)
    (gl26 : K.lookup f26 = some ⟨foc26, fod26, .func (PySem.W.fnOf "__init__" "Web.__init__" (defArgs sInit) (defBody sInit) (defScope sInit) .none fkv26 fdc26 fpm26 fan26 fcd26 fct26), fsl26⟩) (gc26 : PySem.W.codeIn K fcd26 "Web.__init__" = true) (gk26 : PySem.W.keepIn K (.ref f26) = true)
    (gl27 : K.lookup f27 = some ⟨foc27, fod27, .func (PySem.W.fnOf "_is_web" "_is_web" (defArgs sIsWeb) (defBody sIsWeb) (defScope sIsWeb) .none fkv27 fdc27 fpm27 fan27 fcd27 fct27), fsl27⟩) (gc27 : PySem.W.codeIn K fcd27 "_is_web" = true) (gk27 : PySem.W.keepIn K (.ref f27) = true)
    (gl28 : K.lookup f28 = some ⟨foc28, fod28, .func (PySem.W.fnOf "_ends_off" "_ends_off" (defArgs sEnds) (defBody sEnds) (defScope sEnds) .none fkv28 fdc28 fpm28 fan28 fcd28 fct28), fsl28⟩) (gc28 : PySem.W.codeIn K fcd28 "_ends_off" = true) (gk28 : PySem.W.keepIn K (.ref f28) = true)
    (gl29 : K.lookup f29 = some ⟨foc29, fod29, .func (PySem.W.fnOf "_are_places" "_are_places" (defArgs sPlaces) (defBody sPlaces) (defScope sPlaces) .none fkv29 fdc29 fpm29 fan29 fcd29 fct29), fsl29⟩) (gc29 : PySem.W.codeIn K fcd29 "_are_places" = true) (gk29 : PySem.W.keepIn K (.ref f29) = true)
    (gl30 : K.lookup f30 = some ⟨foc30, fod30, .func (PySem.W.fnOf "_are_ties" "_are_ties" (defArgs sTies) (defBody sTies) (defScope sTies) .none fkv30 fdc30 fpm30 fan30 fcd30 fct30), fsl30⟩) (gc30 : PySem.W.codeIn K fcd30 "_are_ties" = true) (gk30 : PySem.W.keepIn K (.ref f30) = true)
    (gl31 : K.lookup f31 = some ⟨foc31, fod31, .func (PySem.W.fnOf "reached_along" "reached_along" (defArgs sReach) (defBody sReach) (defScope sReach) .none fkv31 fdc31 fpm31 fan31 fcd31 fct31), fsl31⟩) (gc31 : PySem.W.codeIn K fcd31 "reached_along" = true) (gk31 : PySem.W.keepIn K (.ref f31) = true)
    (gl32 : K.lookup f32 = some ⟨foc32, fod32, .func (PySem.W.fnOf "are_names" "are_names" (defArgs sNames) (defBody sNames) (defScope sNames) .none fkv32 fdc32 fpm32 fan32 fcd32 fct32), fsl32⟩) (gc32 : PySem.W.codeIn K fcd32 "are_names" = true) (gk32 : PySem.W.keepIn K (.ref f32) = true)
    (gl33 : K.lookup f33 = some ⟨foc33, fod33, .func (PySem.W.fnOf "ascends" "ascends" (defArgs sAsc) (defBody sAsc) (defScope sAsc) .none fkv33 fdc33 fpm33 fan33 fcd33 fct33), fsl33⟩) (gc33 : PySem.W.codeIn K fcd33 "ascends" = true) (gk33 : PySem.W.keepIn K (.ref f33) = true)
    (gl34 : K.lookup f34 = some ⟨foc34, fod34, .func (PySem.W.fnOf "is_name" "is_name" (defArgs sName) (defBody sName) (defScope sName) .none fkv34 fdc34 fpm34 fan34 fcd34 fct34), fsl34⟩) (gc34 : PySem.W.codeIn K fcd34 "is_name" = true) (gk34 : PySem.W.keepIn K (.ref f34) = true)
    (gl35 : K.lookup f35 = some ⟨foc35, fod35, .func (PySem.W.fnOf "is_tie" "is_tie" (defArgs sIsTie) (defBody sIsTie) (defScope sIsTie) .none fkv35 fdc35 fpm35 fan35 fcd35 fct35), fsl35⟩) (gc35 : PySem.W.codeIn K fcd35 "is_tie" = true) (gk35 : PySem.W.keepIn K (.ref f35) = true)
    (gl36 : K.lookup f36 = some ⟨foc36, fod36, .func (PySem.W.fnOf "need_tree" "need_tree" (defArgs sNeedT) (defBody sNeedT) (defScope sNeedT) .none fkv36 fdc36 fpm36 fan36 fcd36 fct36), fsl36⟩) (gc36 : PySem.W.codeIn K fcd36 "need_tree" = true) (gk36 : PySem.W.keepIn K (.ref f36) = true)
    (gl37 : K.lookup f37 = some ⟨foc37, fod37, .func (PySem.W.fnOf "need_place" "need_place" (defArgs sNeedP) (defBody sNeedP) (defScope sNeedP) .none fkv37 fdc37 fpm37 fan37 fcd37 fct37), fsl37⟩) (gc37 : PySem.W.codeIn K fcd37 "need_place" = true) (gk37 : PySem.W.keepIn K (.ref f37) = true)
    (gl38 : K.lookup f38 = some ⟨foc38, fod38, .func (PySem.W.fnOf "_way" "_way" (defArgs sWay) (defBody sWay) (defScope sWay) .none fkv38 fdc38 fpm38 fan38 fcd38 fct38), fsl38⟩) (gc38 : PySem.W.codeIn K fcd38 "_way" = true) (gk38 : PySem.W.keepIn K (.ref f38) = true)
    (gl39 : K.lookup f39 = some ⟨foc39, fod39, .func (PySem.W.fnOf "need_web" "need_web" (defArgs sNeedW) (defBody sNeedW) (defScope sNeedW) .none fkv39 fdc39 fpm39 fan39 fcd39 fct39), fsl39⟩) (gc39 : PySem.W.codeIn K fcd39 "need_web" = true) (gk39 : PySem.W.keepIn K (.ref f39) = true)
    (gl40 : K.lookup f40 = some ⟨foc40, fod40, .func (PySem.W.fnOf "places" "Web.places" (defArgs sWPlaces) (defBody sWPlaces) (defScope sWPlaces) .none fkv40 fdc40 fpm40 fan40 fcd40 fct40), fsl40⟩) (gc40 : PySem.W.codeIn K fcd40 "Web.places" = true) (gk40 : PySem.W.keepIn K (.ref f40) = true)
    (gl41 : K.lookup f41 = some ⟨foc41, fod41, .func (PySem.W.fnOf "ties" "Web.ties" (defArgs sWTies) (defBody sWTies) (defScope sWTies) .none fkv41 fdc41 fpm41 fan41 fcd41 fct41), fsl41⟩) (gc41 : PySem.W.codeIn K fcd41 "Web.ties" = true) (gk41 : PySem.W.keepIn K (.ref f41) = true)
    (gl42 : K.lookup f42 = some ⟨foc42, fod42, .func (PySem.W.fnOf "_hands" "_hands" (defArgs sHands) (defBody sHands) (defScope sHands) .none fkv42 fdc42 fpm42 fan42 fcd42 fct42), fsl42⟩) (gc42 : PySem.W.codeIn K fcd42 "_hands" = true) (gk42 : PySem.W.keepIn K (.ref f42) = true)
    (gl43 : K.lookup f43 = some ⟨foc43, fod43, .func (PySem.W.fnOf "tie_of" "tie_of" (defArgs sTieO) (defBody sTieO) (defScope sTieO) .none fkv43 fdc43 fpm43 fan43 fcd43 fct43), fsl43⟩) (gc43 : PySem.W.codeIn K fcd43 "tie_of" = true) (gk43 : PySem.W.keepIn K (.ref f43) = true)
    (gl44 : K.lookup f44 = some ⟨foc44, fod44, .func (PySem.W.fnOf "neighbours" "Web.neighbours" (defArgs sWNear) (defBody sWNear) (defScope sWNear) .none fkv44 fdc44 fpm44 fan44 fcd44 fct44), fsl44⟩) (gc44 : PySem.W.codeIn K fcd44 "Web.neighbours" = true) (gk44 : PySem.W.keepIn K (.ref f44) = true)
    (gl45 : K.lookup f45 = some ⟨foc45, fod45, .func (PySem.W.fnOf "_law_hands" "_law_hands" (defArgs sLHands) (defBody sLHands) (defScope sLHands) .none fkv45 fdc45 fpm45 fan45 fcd45 fct45), fsl45⟩) (gc45 : PySem.W.codeIn K fcd45 "_law_hands" = true) (gk45 : PySem.W.keepIn K (.ref f45) = true)
    (gl46 : K.lookup f46 = some ⟨foc46, fod46, .func (PySem.W.fnOf "_need_off" "_need_off" (defArgs sNeedOff) (defBody sNeedOff) (defScope sNeedOff) .none fkv46 fdc46 fpm46 fan46 fcd46 fct46), fsl46⟩) (gc46 : PySem.W.codeIn K fcd46 "_need_off" = true) (gk46 : PySem.W.keepIn K (.ref f46) = true)
    (gl47 : K.lookup f47 = some ⟨foc47, fod47, .func (PySem.W.fnOf "least_rotation" "least_rotation" (defArgs sLeast) (defBody sLeast) (defScope sLeast) .none fkv47 fdc47 fpm47 fan47 fcd47 fct47), fsl47⟩) (gc47 : PySem.W.codeIn K fcd47 "least_rotation" = true) (gk47 : PySem.W.keepIn K (.ref f47) = true)
    (gl48 : K.lookup f48 = some ⟨foc48, fod48, .func (PySem.W.fnOf "_law_begun" "_law_begun" (defArgs sBegun) (defBody sBegun) (defScope sBegun) .none fkv48 fdc48 fpm48 fan48 fcd48 fct48), fsl48⟩) (gc48 : PySem.W.codeIn K fcd48 "_law_begun" = true) (gk48 : PySem.W.keepIn K (.ref f48) = true)
    (gl49 : K.lookup f49 = some ⟨foc49, fod49, .func (PySem.W.fnOf "_need_on" "_need_on" (defArgs sNeedOn) (defBody sNeedOn) (defScope sNeedOn) .none fkv49 fdc49 fpm49 fan49 fcd49 fct49), fsl49⟩) (gc49 : PySem.W.codeIn K fcd49 "_need_on" = true) (gk49 : PySem.W.keepIn K (.ref f49) = true)
    (gl50 : K.lookup f50 = some ⟨foc50, fod50, .func (PySem.W.fnOf "_side" "_side" (defArgs sSide) (defBody sSide) (defScope sSide) .none fkv50 fdc50 fpm50 fan50 fcd50 fct50), fsl50⟩) (gc50 : PySem.W.codeIn K fcd50 "_side" = true) (gk50 : PySem.W.keepIn K (.ref f50) = true)
    (gl51 : K.lookup f51 = some ⟨foc51, fod51, .func (PySem.W.fnOf "ties_across" "Web.ties_across" (defArgs sWAcr) (defBody sWAcr) (defScope sWAcr) .none fkv51 fdc51 fpm51 fan51 fcd51 fct51), fsl51⟩) (gc51 : PySem.W.codeIn K fcd51 "Web.ties_across" = true) (gk51 : PySem.W.keepIn K (.ref f51) = true)
    (gl52 : K.lookup f52 = some ⟨foc52, fod52, .func (PySem.W.fnOf "_need_set" "Web._need_set" (defArgs sWNeedS) (defBody sWNeedS) (defScope sWNeedS) .none fkv52 fdc52 fpm52 fan52 fcd52 fct52), fsl52⟩) (gc52 : PySem.W.codeIn K fcd52 "Web._need_set" = true) (gk52 : PySem.W.keepIn K (.ref f52) = true)
    (gl53 : K.lookup f53 = some ⟨foc53, fod53, .func (PySem.W.fnOf "is_place_set" "is_place_set" (defArgs sPlSet) (defBody sPlSet) (defScope sPlSet) .none fkv53 fdc53 fpm53 fan53 fcd53 fct53), fsl53⟩) (gc53 : PySem.W.codeIn K fcd53 "is_place_set" = true) (gk53 : PySem.W.keepIn K (.ref f53) = true)
    (gl54 : K.lookup f54 = some ⟨foc54, fod54, .func (PySem.W.fnOf "exchanged" "exchanged" (defArgs sExch) (defBody sExch) (defScope sExch) .none fkv54 fdc54 fpm54 fan54 fcd54 fct54), fsl54⟩) (gc54 : PySem.W.codeIn K fcd54 "exchanged" = true) (gk54 : PySem.W.keepIn K (.ref f54) = true)
    (gl55 : K.lookup f55 = some ⟨foc55, fod55, .func (PySem.W.fnOf "_law_pick" "_law_pick" (defArgs sPick) (defBody sPick) (defScope sPick) .none fkv55 fdc55 fpm55 fan55 fcd55 fct55), fsl55⟩) (gc55 : PySem.W.codeIn K fcd55 "_law_pick" = true) (gk55 : PySem.W.keepIn K (.ref f55) = true)
    (m_MAX_LETTERS : PySem.W.nsIn K mainGlobals "MAX_LETTERS" = some (some (.int 8 mt_MAX_LETTERS)))
    (m_MAX_PLACES : PySem.W.nsIn K mainGlobals "MAX_PLACES" = some (some (.int 9 mt_MAX_PLACES)))
    (m_MAX_TIES : PySem.W.nsIn K mainGlobals "MAX_TIES" = some (some (.int 18 mt_MAX_TIES)))
    (gr40 : PySem.W.recIn K p40 "property" = some (.ref f40 :: r40))
    (gr41 : PySem.W.recIn K p41 "property" = some (.ref f41 :: r41))
    (y0 : PySem.W.nsIn K mainGlobals "law" = some (some (.ref f1)))
    (y1 : PySem.W.nsIn K mainGlobals "len" = some none)
    (y2 : PySem.W.nsIn K mainGlobals "int" = some none)
    (y3 : PySem.W.nsIn K mainGlobals "max" = some none)
    (y4 : PySem.W.nsIn K mainGlobals "min" = some none)
    (y5 : PySem.W.nsIn K mainGlobals "abs" = some none)
    (y6 : PySem.W.nsIn K mainGlobals "range" = some none)
    (y7 : PySem.W.nsIn K mainGlobals "_law_dice" = some (some (.ref f2)))
    (y8 : PySem.W.keepIn K (.ref f2) = true)
    (y9 : PySem.W.nsIn K mainGlobals "_law_mixed" = some (some (.ref f13)))
    (y10 : PySem.W.nsIn K mainGlobals "_law_roll" = some (some (.ref f15)))
    (y11 : PySem.W.nsIn K mainGlobals "isinstance" = some none)
    (y12 : PySem.W.nsIn K mainGlobals "str" = some none)
    (y13 : PySem.W.nsIn K mainGlobals "list" = some none)
    (y14 : PySem.W.nsIn K mainGlobals "_law_names" = some (some (.ref f14)))
    (y15 : PySem.W.nsIn K mainGlobals "_law_tie" = some (some (.ref f16)))
    (y16 : PySem.W.nsIn K mainGlobals "sorted" = some none)
    (y17 : PySem.W.nsIn K mainGlobals "set" = some none)
    (y18 : PySem.W.nsIn K mainGlobals "tuple" = some none)
    (y19 : PySem.W.nsIn K mainGlobals "_law_pairs" = some (some (.ref f17)))
    (y20 : PySem.W.nsIn K mainGlobals "_law_plain" = some (some (.ref f18)))
    (y21 : PySem.W.nsIn K mainGlobals "_law_web" = some (some (.ref f3)))
    (y22 : PySem.W.keepIn K (.ref f3) = true)
    (y23 : PySem.W.keepIn K (.ref f13) = true)
    (y24 : PySem.W.nsIn K mainGlobals "_law_is_closing" = some (some (.ref f19)))
    (y25 : PySem.W.keepIn K (.ref f19) = true)
    (y26 : PySem.W.nsIn K mainGlobals "_law_tree" = some (some (.ref f4)))
    (y27 : PySem.W.keepIn K (.ref f4) = true)
    (y28 : PySem.W.makesIn K C_Web = true)
    (y29 : PySem.W.findIn K (.ref C_Web) "__init__" = some (some (.ref f26)))
    (y30 : PySem.W.isFn K (.ref f26) = true)
    (y31 : PySem.W.keepIn K (.ref C_Web) = true)
    (y32 : PySem.W.nsIn K mainGlobals "Web" = some (some (.ref C_Web)))
    (y33 : PySem.W.nsIn K mainGlobals "_is_web" = some (some (.ref f27)))
    (y34 : PySem.W.nsIn K mainGlobals "_are_places" = some (some (.ref f29)))
    (y35 : PySem.W.nsIn K mainGlobals "are_names" = some (some (.ref f32)))
    (y36 : PySem.W.nsIn K mainGlobals "is_name" = some (some (.ref f34)))
    (y37 : PySem.W.nsIn K mainGlobals "bool" = some none)
    (y38 : PySem.W.nsIn K mainGlobals "dict" = some none)
    (y39 : PySem.W.nsIn K mainGlobals "all" = some none)
    (y40 : PySem.W.nsIn K mainGlobals "ascends" = some (some (.ref f33)))
    (y41 : PySem.W.nsIn K mainGlobals "zip" = some none)
    (y42 : PySem.W.nsIn K mainGlobals "_are_ties" = some (some (.ref f30)))
    (y43 : PySem.W.nsIn K mainGlobals "is_tie" = some (some (.ref f35)))
    (y44 : PySem.W.nsIn K mainGlobals "reached_along" = some (some (.ref f31)))
    (y45 : PySem.W.nsIn K mainGlobals "_ends_off" = some (some (.ref f28)))
    (y46 : PySem.W.plainGet K C_Web Str.empty = true)
    (y47 : PySem.W.hasDictIn K C_Web = true)
    (y48 : PySem.W.plainOver K C_Web = true)
    (y49 : PySem.W.findIn K (.ref C_Web) "__setattr__" = some (some (.builtin "object.__setattr__")))
    (y50 : PySem.W.findIn K (.ref C_Web) "_places" = some none)
    (y51 : PySem.W.findIn K (.ref C_Web) "_ties" = some none)
    (y52 : PySem.W.findIn K (.ref C_Web) "_near" = some none)
    (y53 : PySem.W.nsIn K mainGlobals "_law_made" = some (some (.ref f7)))
    (y54 : PySem.W.keepIn K (.ref f7) = true)
    (y55 : PySem.W.kitOne K (.ref C_Web) (.ref C_Web) = some true)
    (y56 : PySem.W.findIn K (.ref C_Web) "__class__" = some (some (.builtin "object.__class__")))
    (y57 : PySem.W.specialIn K (.builtin "object.__class__") "__get__" = some (some (.builtin "getset_descriptor.__get__")))
    (y58 : PySem.W.takesIn K (.builtin "object.__class__") = some true)
    (y59 : PySem.W.mroIn K C_Web (.type "object") = some true)
    (y60 : PySem.W.nsIn K mainGlobals "need_web" = some (some (.ref f39)))
    (y61 : PySem.W.keepIn K (.ref f39) = true)
    (y62 : PySem.W.findIn K (.ref C_Web) "places" = some (some (.ref p40)))
    (y63 : PySem.W.specialIn K (.ref p40) "__get__" = some (some (.builtin "property.__get__")))
    (y64 : PySem.W.takesIn K (.ref p40) = some true)
    (y65 : PySem.W.findIn K (.ref C_Web) "ties" = some (some (.ref p41)))
    (y66 : PySem.W.specialIn K (.ref p41) "__get__" = some (some (.builtin "property.__get__")))
    (y67 : PySem.W.takesIn K (.ref p41) = some true)
    (y68 : PySem.W.keepIn K (.ref f33) = true)
    (y69 : PySem.W.keepIn K (.ref f31) = true)
    (y70 : PySem.W.nsIn K mainGlobals "is_joining_tree" = some (some (.ref f24)))
    (y71 : PySem.W.keepIn K (.ref f24) = true)
    (y72 : PySem.W.nsIn K mainGlobals "need_tree" = some (some (.ref f36)))
    (y73 : PySem.W.keepIn K (.ref f36) = true)
    (y74 : PySem.W.nsIn K mainGlobals "need_place" = some (some (.ref f37)))
    (y75 : PySem.W.keepIn K (.ref f37) = true)
    (y76 : PySem.W.findIn K (.ref C_Web) "neighbours" = some (some (.ref f44)))
    (y77 : PySem.W.isFn K (.ref f44) = true)
    (y78 : PySem.W.keepIn K (.ref f44) = true)
    (y79 : PySem.W.nsIn K mainGlobals "tie_of" = some (some (.ref f43)))
    (y80 : PySem.W.keepIn K (.ref f43) = true)
    (y81 : PySem.W.nsIn K mainGlobals "_hands" = some (some (.ref f42)))
    (y82 : PySem.W.keepIn K (.ref f42) = true)
    (y83 : PySem.W.nsIn K mainGlobals "_way" = some (some (.ref f38)))
    (y84 : PySem.W.keepIn K (.ref f38) = true)
    (y85 : PySem.W.nsIn K mainGlobals "way_in" = some (some (.ref f10)))
    (y86 : PySem.W.keepIn K (.ref f10) = true)
    (y87 : PySem.W.nsIn K mainGlobals "_law_hands" = some (some (.ref f45)))
    (y88 : PySem.W.keepIn K (.ref f45) = true)
    (y89 : PySem.W.nsIn K mainGlobals "_law_way" = some (some (.ref f20)))
    (y90 : PySem.W.keepIn K (.ref f20) = true)
    (y91 : PySem.W.nsIn K mainGlobals "_need_off" = some (some (.ref f46)))
    (y92 : PySem.W.keepIn K (.ref f46) = true)
    (y93 : PySem.W.nsIn K mainGlobals "least_rotation" = some (some (.ref f47)))
    (y94 : PySem.W.keepIn K (.ref f47) = true)
    (y95 : PySem.W.nsIn K mainGlobals "ring_closed" = some (some (.ref f9)))
    (y96 : PySem.W.keepIn K (.ref f9) = true)
    (y97 : PySem.W.nsIn K mainGlobals "_law_begun" = some (some (.ref f48)))
    (y98 : PySem.W.keepIn K (.ref f48) = true)
    (y99 : PySem.W.nsIn K mainGlobals "_law_ring_form" = some (some (.ref f21)))
    (y100 : PySem.W.keepIn K (.ref f21) = true)
    (y101 : PySem.W.nsIn K mainGlobals "_law_lots" = some (some (.ref f22)))
    (y102 : PySem.W.keepIn K (.ref f22) = true)
    (y103 : PySem.W.nsIn K mainGlobals "_law_across" = some (some (.ref f23)))
    (y104 : PySem.W.keepIn K (.ref f23) = true)
    (y105 : PySem.W.nsIn K mainGlobals "_need_on" = some (some (.ref f49)))
    (y106 : PySem.W.keepIn K (.ref f49) = true)
    (y107 : PySem.W.nsIn K mainGlobals "_side" = some (some (.ref f50)))
    (y108 : PySem.W.keepIn K (.ref f50) = true)
    (y109 : PySem.W.findIn K (.ref C_Web) "ties_across" = some (some (.ref f51)))
    (y110 : PySem.W.isFn K (.ref f51) = true)
    (y111 : PySem.W.keepIn K (.ref f51) = true)
    (y112 : PySem.W.findIn K (.ref C_Web) "_need_set" = some (some (.ref f52)))
    (y113 : PySem.W.isFn K (.ref f52) = true)
    (y114 : PySem.W.keepIn K (.ref f52) = true)
    (y115 : PySem.W.nsIn K mainGlobals "is_place_set" = some (some (.ref f53)))
    (y116 : PySem.W.keepIn K (.ref f53) = true)
    (y117 : PySem.W.nsIn K mainGlobals "cut_closed" = some (some (.ref f11)))
    (y118 : PySem.W.keepIn K (.ref f11) = true)
    (y119 : PySem.W.nsIn K mainGlobals "side_of" = some (some (.ref f12)))
    (y120 : PySem.W.keepIn K (.ref f12) = true)
    (y121 : PySem.W.nsIn K mainGlobals "InvalidOperation" = some (some (.ref C_InvalidOperation)))
    (y122 : PySem.W.excIn K C_InvalidOperation [.type "ValueError", .type "Exception", .type "BaseException", .type "object"] "ValueError.__new__" = true)
    (y123 : PySem.W.keepIn K (.ref C_InvalidOperation) = true)
    (y124 : PySem.W.subIn K (.ref C_InvalidOperation) (.type "BaseException") = some true)
    (y125 : PySem.W.typeIn K (.ref C_InvalidOperation) = some (.type "type"))
    (y126 : PySem.W.nsIn K mainGlobals "exchanged" = some (some (.ref f54)))
    (y127 : PySem.W.keepIn K (.ref f54) = true)
    (y128 : PySem.W.exmOne K (.ref C_InvalidOperation) (.ref C_InvalidOperation) = some true)
    (y129 : PySem.W.nsIn K mainGlobals "_law_told" = some (some (.ref f25)))
    (y130 : PySem.W.keepIn K (.ref f25) = true)
    (y131 : PySem.W.nsIn K mainGlobals "_law_tree_right" = some (some (.ref f5)))
    (y132 : PySem.W.keepIn K (.ref f5) = true)
    (y133 : PySem.W.nsIn K mainGlobals "_law_pick" = some (some (.ref f55)))
    (y134 : PySem.W.keepIn K (.ref f55) = true)
    (y135 : PySem.W.nsIn K mainGlobals "_law_led_right" = some (some (.ref f6)))
    (y136 : PySem.W.keepIn K (.ref f6) = true)
    (y137 : PySem.W.nsIn K mainGlobals "_law_written" = some (some (.ref f8)))
    (y138 : PySem.W.keepIn K (.ref f8) = true)
    : ∃ fd : FuncData, (∀ (s : Shared) (u : Value), BindsTo s fd ⟨[u], []⟩ [("_law_script", u)]) ∧ ∀ base : Heap, K.In base → base.Ns mainGlobals mg → GFn l.prog w K mg base (L2.CX l.prog w) 10 fa fd ["_law_script"] (spLaw K) := by
  have e := hfa.symm.trans (PySem.W.mg_of X G y0)
  cases e
  have g : ∀ {n : Str} {v : Value}, PySem.W.nsIn K mainGlobals n = some (some v) → mg n = some v := fun e => PySem.W.mg_of X G e
  have zn : ∀ {n : Str}, PySem.W.nsIn K mainGlobals n = some none → mg n = none := fun e => PySem.W.mg_none_of X G e
  have F1 := fun_mk (st := sLaw) gl1 gc1 gk1
  have F2 := fun_mk (st := sDice) gl2 gc2 gk2
  have F3 := fun_mk (st := sLWeb) gl3 gc3 gk3
  have F4 := fun_mk (st := sLTree) gl4 gc4 gk4
  have F5 := fun_mk (st := sTR) gl5 gc5 gk5
  have F6 := fun_mk (st := sLed) gl6 gc6 gk6
  have F7 := fun_mk (st := sMade) gl7 gc7 gk7
  have F8 := fun_mk (st := sLWri) gl8 gc8 gk8
  have F9 := fun_mk (st := sRingC) gl9 gc9 gk9
  have F10 := fun_mk (st := sWayIn) gl10 gc10 gk10
  have F11 := fun_mk (st := sCutC) gl11 gc11 gk11
  have F12 := fun_mk (st := sSideOf) gl12 gc12 gk12
  have F13 := fun_mk (st := sMixed) gl13 gc13 gk13
  have F14 := fun_mk (st := sLNames) gl14 gc14 gk14
  have F15 := fun_mk (st := sRoll) gl15 gc15 gk15
  have F16 := fun_mk (st := sTie) gl16 gc16 gk16
  have F17 := fun_mk (st := sPairs) gl17 gc17 gk17
  have F18 := fun_mk (st := sPlain) gl18 gc18 gk18
  have F19 := fun_mk (st := sClos) gl19 gc19 gk19
  have F20 := fun_mk (st := sLWay) gl20 gc20 gk20
  have F21 := fun_mk (st := sRingF) gl21 gc21 gk21
  have F22 := fun_mk (st := sLots) gl22 gc22 gk22
  have F23 := fun_mk (st := sLAcr) gl23 gc23 gk23
  have F24 := fun_mk (st := sIJT) gl24 gc24 gk24
  have F25 := fun_mk (st := sTold) gl25 gc25 gk25
  have F26 := fun_mk (st := sInit) gl26 gc26 gk26
  have F27 := fun_mk (st := sIsWeb) gl27 gc27 gk27
  have F28 := fun_mk (st := sEnds) gl28 gc28 gk28
  have F29 := fun_mk (st := sPlaces) gl29 gc29 gk29
  have F30 := fun_mk (st := sTies) gl30 gc30 gk30
  have F31 := fun_mk (st := sReach) gl31 gc31 gk31
  have F32 := fun_mk (st := sNames) gl32 gc32 gk32
  have F33 := fun_mk (st := sAsc) gl33 gc33 gk33
  have F34 := fun_mk (st := sName) gl34 gc34 gk34
  have F35 := fun_mk (st := sIsTie) gl35 gc35 gk35
  have F36 := fun_mk (st := sNeedT) gl36 gc36 gk36
  have F37 := fun_mk (st := sNeedP) gl37 gc37 gk37
  have F38 := fun_mk (st := sWay) gl38 gc38 gk38
  have F39 := fun_mk (st := sNeedW) gl39 gc39 gk39
  have F40 := fun_mk (st := sWPlaces) gl40 gc40 gk40
  have F41 := fun_mk (st := sWTies) gl41 gc41 gk41
  have F42 := fun_mk (st := sHands) gl42 gc42 gk42
  have F43 := fun_mk (st := sTieO) gl43 gc43 gk43
  have F44 := fun_mk (st := sWNear) gl44 gc44 gk44
  have F45 := fun_mk (st := sLHands) gl45 gc45 gk45
  have F46 := fun_mk (st := sNeedOff) gl46 gc46 gk46
  have F47 := fun_mk (st := sLeast) gl47 gc47 gk47
  have F48 := fun_mk (st := sBegun) gl48 gc48 gk48
  have F49 := fun_mk (st := sNeedOn) gl49 gc49 gk49
  have F50 := fun_mk (st := sSide) gl50 gc50 gk50
  have F51 := fun_mk (st := sWAcr) gl51 gc51 gk51
  have F52 := fun_mk (st := sWNeedS) gl52 gc52 gk52
  have F53 := fun_mk (st := sPlSet) gl53 gc53 gk53
  have F54 := fun_mk (st := sExch) gl54 gc54 gk54
  have F55 := fun_mk (st := sPick) gl55 gc55 gk55
  refine ⟨PySem.W.fnOf "law" "law" (defArgs sLaw) (defBody sLaw) (defScope sLaw) .none fkv1 fdc1 fpm1 fan1 fcd1 fct1, fun s u => .of_eq rfl, fun base _ _ => ?_⟩
  have S1 : Blt mg := { len := (zn y1), int := (zn y2), max := (zn y3), min := (zn y4), abs := (zn y5), range := (zn y6) }
  have G1 := ok_dice (P := l.prog) (w := w) (base := base) (mg := mg) F2 S1
  have S2 : Cl l.prog w K mg base 1 "_law_dice" ["_law_script", "_law_spot"] (spDice K) := { f := f2, fd := _, ok := G1, gl := (g y7), kp := y8, bd := (F2.binds fun _ _ _ _ _ _ us hl => match us, hl with | [_, _], _ => rfl) }
  have G2 := ok_roll (P := l.prog) (w := w) (base := base) (mg := mg) F15 S1
  have S3 : BltL mg := { range := (zn y6), isinst := (zn y11), str := (zn y12), len := (zn y1), list := (zn y13) }
  have G3 := ok_mixed (P := l.prog) (w := w) (base := base) (mg := mg) F13 F15 (g y10) G2 S3
  have G4 := ok_lnames (P := l.prog) (w := w) (base := base) (mg := mg) F14
  have S4 : BltM mg := { min := (zn y4), max := (zn y3), list := (zn y13), sorted := (zn y16), set := (zn y17), tuple := (zn y18), range := (zn y6), len := (zn y1) }
  have G5 := ok_tie (P := l.prog) (w := w) (base := base) (mg := mg) F16 S4
  have G6 := ok_pairs (P := l.prog) (w := w) (base := base) (mg := mg) F17 F16 (g y15) G5 S4
  have G7 := ok_plain (P := l.prog) (w := w) (base := base) (mg := mg) F18 F16 (g y15) G5 S4
  have G8 := ok_lwebN (P := l.prog) (w := w) (base := base) (mg := mg) F3 F13 (g y9) G3 F14 (g y14) G4 F15 (g y10) G2 F16 (g y15) G5 F17 (g y19) G6 F18 (g y20) G7 S4
  have S5 : Cl l.prog w K mg base 3 "_law_web" ["_law_dice_here", "_law_most", "_law_spare"] spLWebN := { f := f3, fd := _, ok := G8, gl := (g y21), kp := y22, bd := (F3.binds fun _ _ _ _ _ _ us hl => match us, hl with | [_, _, _], _ => rfl) }
  have S6 : Cl l.prog w K mg base 2 "_law_mixed" ["_law_dice_here", "_law_items"] spMixed := { f := f13, fd := _, ok := G3, gl := (g y9), kp := y23, bd := (F13.binds fun _ _ _ _ _ _ us hl => match us, hl with | [_, _], _ => rfl) }
  have G9 := ok_clos (P := l.prog) (w := w) (base := base) (mg := mg) F19 S4
  have S7 : Cl l.prog w K mg base 1 "_law_is_closing" ["_law_some", "_law_tie_here"] spClos := { f := f19, fd := _, ok := G9, gl := (g y24), kp := y25, bd := (F19.binds fun _ _ _ _ _ _ us hl => match us, hl with | [_, _], _ => rfl) }
  have G10 := ok_ltree (P := l.prog) (w := w) (base := base) (mg := mg) F4 S6 S7 S4
  have S8 : Cl l.prog w K mg base 3 "_law_tree" ["_law_dice_here", "_law_plain_here"] spLTree := { f := f4, fd := _, ok := G10, gl := (g y26), kp := y27, bd := (F4.binds fun _ _ _ _ _ _ us hl => match us, hl with | [_, _], _ => rfl) }
  have S9 : Mk K C_Web f26 := { makes := y28, init := y29, fn := y30, kp := y31 }
  have S10 : BltW mg := { isinst := (zn y11), int := (zn y2), bool := (zn y37), str := (zn y12), tuple := (zn y18), dict := (zn y38), len := (zn y1), abs := (zn y5), all := (zn y39), set := (zn y17) }
  have G11 := ok_name (P := l.prog) (w := w) (base := base) (mg := mg) F34 (g m_MAX_LETTERS) S10
  have G12 := ok_names (P := l.prog) (w := w) (base := base) (mg := mg) F32 F34 (g y36) G11 S10
  have S11 : BltB mg := { len := (zn y1), all := (zn y39), zip := (zn y41), tuple := (zn y18), sorted := (zn y16), isinst := (zn y11) }
  have G13 := ok_asc (P := l.prog) (w := w) (base := base) (mg := mg) F33 S11
  have G14 := ok_places (P := l.prog) (w := w) (base := base) (mg := mg) F29 F32 (g y35) G12 F33 (g y40) G13 (g m_MAX_PLACES) S11
  have G15 := ok_isTie (P := l.prog) (w := w) (base := base) (mg := mg) F35 F32 (g y35) G12 S11
  have G16 := ok_ties (P := l.prog) (w := w) (base := base) (mg := mg) F30 F35 (g y43) G15 F33 (g y40) G13 (g m_MAX_TIES) S11
  have G17 := ok_ends (P := l.prog) (w := w) (base := base) (mg := mg) F28 S11
  have G18 := ok_reach (P := l.prog) (w := w) (base := base) (mg := mg) F31 F28 (g y45) G17 S11
  have G19 := ok_isweb (P := l.prog) (w := w) (base := base) (mg := mg) F27 F29 (g y34) G14 F30 (g y42) G16 F31 (g y44) G18
  have S12 : Cls K C_Web := { pg := y46, hd := y47, po := y48, sa := y49 }
  have S13 : WebK K C_Web := { cls := S12, np := y50, nt := y51, nn := y52 }
  have G20 := ok_init (P := l.prog) (w := w) (base := base) (mg := mg) (C := C_Web) F26 F27 (g y33) G19 F28 (g y45) G17 S13
  have G21 := ok_made (P := l.prog) (w := w) (base := base) (mg := mg) (C := C_Web) F7 F26 S9 (g y32) G20 S4
  have S14 : Cl l.prog w K mg base 8 "_law_made" ["_law_plain_here"] (spMade C_Web) := { f := f7, fd := _, ok := G21, gl := (g y53), kp := y54, bd := (F7.binds fun _ _ _ _ _ _ us hl => match us, hl with | [_], _ => rfl) }
  have S15 : InsTy K C_Web := { cl := S12, ha := y56, hn := y57, htk := y58, hm := y59 }
  have G22 := ok_needw (P := l.prog) (w := w) (base := base) (mg := mg) (C := C_Web) F39 (g y32) y55 S15 S11
  have S16 : Cl l.prog w K mg base 1 "need_web" ["web"] (spNeedW C_Web) := { f := f39, fd := _, ok := G22, gl := (g y60), kp := y61, bd := (F39.binds fun _ _ _ _ _ _ us hl => match us, hl with | [_], _ => rfl) }
  have S17 : PropOf K C_Web "places" p40 f40 := { at_ := y62, get := y63, tak := y64, rec_ := ⟨_, gr40⟩ }
  have G23 := ok_wplaces (P := l.prog) (w := w) (base := base) (mg := mg) (C := C_Web) F40 S13
  have S18 : Pt l.prog w K mg base 1 C_Web "places" (spWPlaces C_Web) := { f := f40, fd := _, pa := p40, po := S17, ok := G23, bd := (F40.binds fun _ _ _ _ _ _ us hl => match us, hl with | [_], _ => rfl) }
  have S19 : PropOf K C_Web "ties" p41 f41 := { at_ := y65, get := y66, tak := y67, rec_ := ⟨_, gr41⟩ }
  have G24 := ok_wties (P := l.prog) (w := w) (base := base) (mg := mg) (C := C_Web) F41 S13
  have S20 : Pt l.prog w K mg base 1 C_Web "ties" (spWTies C_Web) := { f := f41, fd := _, pa := p41, po := S19, ok := G24, bd := (F41.binds fun _ _ _ _ _ _ us hl => match us, hl with | [_], _ => rfl) }
  have S21 : Cl l.prog w K mg base 1 "ascends" ["row"] spAsc := { f := f33, fd := _, ok := G13, gl := (g y40), kp := y68, bd := (F33.binds fun _ _ _ _ _ _ us hl => match us, hl with | [_], _ => rfl) }
  have S22 : Cl l.prog w K mg base 2 "reached_along" ["ties", "place"] spReach := { f := f31, fd := _, ok := G18, gl := (g y44), kp := y69, bd := (F31.binds fun _ _ _ _ _ _ us hl => match us, hl with | [_, _], _ => rfl) }
  have G25 := ok_ijt (P := l.prog) (w := w) (base := base) (mg := mg) (C := C_Web) F24 S13 S16 S18 S20 S21 S22 S11
  have S23 : Cl l.prog w K mg base 3 "is_joining_tree" ["web", "value"] (spIJT C_Web) := { f := f24, fd := _, ok := G25, gl := (g y70), kp := y71, bd := (F24.binds fun _ _ _ _ _ _ us hl => match us, hl with | [_, _], _ => rfl) }
  have G26 := ok_needt (P := l.prog) (w := w) (base := base) (mg := mg) (C := C_Web) F36 S23
  have S24 : Cl l.prog w K mg base 4 "need_tree" ["web", "tree"] (spNeedT C_Web) := { f := f36, fd := _, ok := G26, gl := (g y72), kp := y73, bd := (F36.binds fun _ _ _ _ _ _ us hl => match us, hl with | [_, _], _ => rfl) }
  have G27 := ok_needp (P := l.prog) (w := w) (base := base) (mg := mg) (C := C_Web) F37 F40 S17 G23 S13
  have S25 : Cl l.prog w K mg base 3 "need_place" ["web", "place"] (spNeedP C_Web) := { f := f37, fd := _, ok := G27, gl := (g y74), kp := y75, bd := (F37.binds fun _ _ _ _ _ _ us hl => match us, hl with | [_, _], _ => rfl) }
  have S26 : Meth K C_Web "neighbours" f44 := { at_ := y76, fn := y77, kp := y78 }
  have G28 := ok_wnear (P := l.prog) (w := w) (base := base) (mg := mg) (C := C_Web) F44 F37 (g y74) G27 S13
  have S27 : Mt l.prog w K mg base 4 C_Web "neighbours" ["self", "place"] (spWNear C_Web) := { f := f44, fd := _, me := S26, ok := G28, bd := (F44.binds fun _ _ _ _ _ _ us hl => match us, hl with | [_, _], _ => rfl) }
  have G29 := ok_tieo (P := l.prog) (w := w) (base := base) (mg := mg) F43
  have S28 : Cl l.prog w K mg base 1 "tie_of" ["a", "b"] spTie := { f := f43, fd := _, ok := G29, gl := (g y79), kp := y80, bd := (F43.binds fun _ _ _ _ _ _ us hl => match us, hl with | [_, _], _ => rfl) }
  have G30 := ok_hands (P := l.prog) (w := w) (base := base) (mg := mg) (C := C_Web) F42 S13 S27 S28 S18
  have S29 : Cl l.prog w K mg base 5 "_hands" ["web", "tree", "home"] (spHands C_Web) := { f := f42, fd := _, ok := G30, gl := (g y81), kp := y82, bd := (F42.binds fun _ _ _ _ _ _ us hl => match us, hl with | [_, _, _], _ => rfl) }
  have G31 := ok_way (P := l.prog) (w := w) (base := base) (mg := mg) (C := C_Web) F38 S29 (zn y18)
  have S30 : Cl l.prog w K mg base 6 "_way" ["web", "tree", "a", "b"] (spWay C_Web) := { f := f38, fd := _, ok := G31, gl := (g y83), kp := y84, bd := (F38.binds fun _ _ _ _ _ _ us hl => match us, hl with | [_, _, _, _], _ => rfl) }
  have G32 := ok_wayin (P := l.prog) (w := w) (base := base) (mg := mg) (C := C_Web) F10 S24 S25 S30
  have S31 : Cl l.prog w K mg base 7 "way_in" ["web", "tree", "a", "b"] (spWayIn C_Web) := { f := f10, fd := _, ok := G32, gl := (g y85), kp := y86, bd := (F10.binds fun _ _ _ _ _ _ us hl => match us, hl with | [_, _, _, _], _ => rfl) }
  have G33 := ok_lhands (P := l.prog) (w := w) (base := base) (mg := mg) F45 S4 (zn y38)
  have S32 : Cl l.prog w K mg base 1 "_law_hands" ["_law_plain_here", "_law_tree_here", "_law_home"] spLHands := { f := f45, fd := _, ok := G33, gl := (g y87), kp := y88, bd := (F45.binds fun _ _ _ _ _ _ us hl => match us, hl with | [_, _, _], _ => rfl) }
  have G34 := ok_lway (P := l.prog) (w := w) (base := base) (mg := mg) F20 S32 S4
  have S33 : Cl l.prog w K mg base 2 "_law_way" ["_law_plain_here", "_law_tree_here", "_law_a", "_law_b"] spLWay := { f := f20, fd := _, ok := G34, gl := (g y89), kp := y90, bd := (F20.binds fun _ _ _ _ _ _ us hl => match us, hl with | [_, _, _, _], _ => rfl) }
  have G35 := ok_needoff (P := l.prog) (w := w) (base := base) (mg := mg) (C := C_Web) F46 S13 S20
  have S34 : Cl l.prog w K mg base 3 "_need_off" ["web", "tree", "tie"] (spNeedOff C_Web) := { f := f46, fd := _, ok := G35, gl := (g y91), kp := y92, bd := (F46.binds fun _ _ _ _ _ _ us hl => match us, hl with | [_, _, _], _ => rfl) }
  have G36 := ok_least (P := l.prog) (w := w) (base := base) (mg := mg) F47 S4 (zn y4)
  have S35 : Cl l.prog w K mg base 1 "least_rotation" ["row"] spLeast := { f := f47, fd := _, ok := G36, gl := (g y93), kp := y94, bd := (F47.binds fun _ _ _ _ _ _ us hl => match us, hl with | [_], _ => rfl) }
  have G37 := ok_ringc (P := l.prog) (w := w) (base := base) (mg := mg) (C := C_Web) F9 S24 S34 S30 S35 (zn y4)
  have S36 : Cl l.prog w K mg base 7 "ring_closed" ["web", "tree", "tie"] (spRingC C_Web) := { f := f9, fd := _, ok := G37, gl := (g y95), kp := y96, bd := (F9.binds fun _ _ _ _ _ _ us hl => match us, hl with | [_, _, _], _ => rfl) }
  have G38 := ok_begun (P := l.prog) (w := w) (base := base) (mg := mg) F48 S4 (zn y4)
  have S37 : Cl l.prog w K mg base 1 "_law_begun" ["_law_row"] spBegun := { f := f48, fd := _, ok := G38, gl := (g y97), kp := y98, bd := (F48.binds fun _ _ _ _ _ _ us hl => match us, hl with | [_], _ => rfl) }
  have G39 := ok_ringf (P := l.prog) (w := w) (base := base) (mg := mg) F21 S37 S4
  have S38 : Cl l.prog w K mg base 2 "_law_ring_form" ["_law_places"] spRingF := { f := f21, fd := _, ok := G39, gl := (g y99), kp := y100, bd := (F21.binds fun _ _ _ _ _ _ us hl => match us, hl with | [_], _ => rfl) }
  have G40 := ok_lots (P := l.prog) (w := w) (base := base) (mg := mg) F22 (zn y1) (zn y6) (zn y18) (zn y16)
  have S39 : Cl l.prog w K mg base 1 "_law_lots" ["_law_plain_here", "_law_gone"] spLots := { f := f22, fd := _, ok := G40, gl := (g y101), kp := y102, bd := (F22.binds fun _ _ _ _ _ _ us hl => match us, hl with | [_, _], _ => rfl) }
  have G41 := ok_lacr (P := l.prog) (w := w) (base := base) (mg := mg) F23
  have S40 : Cl l.prog w K mg base 1 "_law_across" ["_law_plain_here", "_law_places"] (spLKeep acrossB) := { f := f23, fd := _, ok := G41, gl := (g y103), kp := y104, bd := (F23.binds fun _ _ _ _ _ _ us hl => match us, hl with | [_, _], _ => rfl) }
  have G42 := ok_needon (P := l.prog) (w := w) (base := base) (mg := mg) F49
  have S41 : Cl l.prog w K mg base 1 "_need_on" ["tree", "tie"] spNeedOn := { f := f49, fd := _, ok := G42, gl := (g y105), kp := y106, bd := (F49.binds fun _ _ _ _ _ _ us hl => match us, hl with | [_, _], _ => rfl) }
  have G43 := ok_endsA (P := l.prog) (w := w) (base := base) (mg := mg) F28 S11
  have G44 := ok_reachA (P := l.prog) (w := w) (base := base) (mg := mg) F31 F28 (g y45) G43 S11
  have S42 : Cl l.prog w K mg base 2 "reached_along" ["ties", "place"] spReachA := { f := f31, fd := _, ok := G44, gl := (g y44), kp := y69, bd := (F31.binds fun _ _ _ _ _ _ us hl => match us, hl with | [_, _], _ => rfl) }
  have G45 := ok_side (P := l.prog) (w := w) (base := base) (mg := mg) F50 S42
  have S43 : Cl l.prog w K mg base 3 "_side" ["tree", "tie", "place"] spSide := { f := f50, fd := _, ok := G45, gl := (g y107), kp := y108, bd := (F50.binds fun _ _ _ _ _ _ us hl => match us, hl with | [_, _, _], _ => rfl) }
  have S44 : Meth K C_Web "ties_across" f51 := { at_ := y109, fn := y110, kp := y111 }
  have S45 : Meth K C_Web "_need_set" f52 := { at_ := y112, fn := y113, kp := y114 }
  have G46 := ok_plset (P := l.prog) (w := w) (base := base) (mg := mg) (C := C_Web) F53 S21 S18 S13 S11
  have S46 : Cl l.prog w K mg base 3 "is_place_set" ["web", "value"] (spPlSet C_Web) := { f := f53, fd := _, ok := G46, gl := (g y115), kp := y116, bd := (F53.binds fun _ _ _ _ _ _ us hl => match us, hl with | [_, _], _ => rfl) }
  have G47 := ok_wneeds (P := l.prog) (w := w) (base := base) (mg := mg) (C := C_Web) F52 S46
  have S47 : Mt l.prog w K mg base 4 C_Web "_need_set" ["self", "places"] (spWNeedS C_Web) := { f := f52, fd := _, me := S45, ok := G47, bd := (F52.binds fun _ _ _ _ _ _ us hl => match us, hl with | [_, _], _ => rfl) }
  have G48 := ok_wacr (P := l.prog) (w := w) (base := base) (mg := mg) (C := C_Web) F51 S13 S47 (zn y18)
  have S48 : Mt l.prog w K mg base 5 C_Web "ties_across" ["self", "places"] (spWKeep C_Web acrossB) := { f := f51, fd := _, me := S44, ok := G48, bd := (F51.binds fun _ _ _ _ _ _ us hl => match us, hl with | [_, _], _ => rfl) }
  have G49 := ok_cutc (P := l.prog) (w := w) (base := base) (mg := mg) (C := C_Web) F11 S13 S24 S41 S43 S48
  have S49 : Cl l.prog w K mg base 6 "cut_closed" ["web", "tree", "tie"] (spCutC C_Web) := { f := f11, fd := _, ok := G49, gl := (g y117), kp := y118, bd := (F11.binds fun _ _ _ _ _ _ us hl => match us, hl with | [_, _, _], _ => rfl) }
  have G50 := ok_sideof (P := l.prog) (w := w) (base := base) (mg := mg) (C := C_Web) F12 S24 S41 S25 S43
  have S50 : Cl l.prog w K mg base 5 "side_of" ["web", "tree", "tie", "place"] (spSideOf C_Web) := { f := f12, fd := _, ok := G50, gl := (g y119), kp := y120, bd := (F12.binds fun _ _ _ _ _ _ us hl => match us, hl with | [_, _, _, _], _ => rfl) }
  have S51 : EV K mg "InvalidOperation" C_InvalidOperation := { g := (g y121), x := y122, k := y123, s := y124, t := y125 }
  have G51 := ok_exchX (P := l.prog) (w := w) (base := base) (mg := mg) (C := C_Web) (CO := C_InvalidOperation) F54 S24 S41 S34 S23 (zn y18) (zn y16) S51
  have S52 : ClE l.prog w K mg base 5 "exchanged" ["web", "tree", "out", "new"] (spExchX C_Web C_InvalidOperation) := { f := f54, fd := _, ok := G51, gl := (g y126), kp := y127, bd := (F54.binds fun _ _ _ _ _ _ us hl => match us, hl with | [_, _, _, _], _ => rfl) }
  have G52 := ok_told (P := l.prog) (w := w) (base := base) (mg := mg) (C := C_Web) (CO := C_InvalidOperation) F25 S52 (g y121) y128
  have S53 : Cl l.prog w K mg base 6 "_law_told" ["_law_web_here", "_law_tree_here", "_law_out", "_law_new"] (spTold C_Web) := { f := f25, fd := _, ok := G52, gl := (g y129), kp := y130, bd := (F25.binds fun _ _ _ _ _ _ us hl => match us, hl with | [_, _, _, _], _ => rfl) }
  have S54 : CqT l.prog w K mg base C_Web := { made := S14, wayin := S31, lway := S33, ringc := S36, ringf := S38, lots := S39, acr := S40, cutc := S49, sideof := S50, ijt := S23, told := S53 }
  have G53 := ok_tr (P := l.prog) (w := w) (base := base) (mg := mg) (CW := C_Web) F5 S54 S4
  have S55 : Cl l.prog w K mg base 9 "_law_tree_right" ["_law_plain_here", "_law_tree_here"] spTR := { f := f5, fd := _, ok := G53, gl := (g y131), kp := y132, bd := (F5.binds fun _ _ _ _ _ _ us hl => match us, hl with | [_, _], _ => rfl) }
  have G54 := ok_exch (P := l.prog) (w := w) (base := base) (mg := mg) (C := C_Web) F54 S24 S41 S34 S23 (zn y18) (zn y16)
  have S56 : Cl l.prog w K mg base 5 "exchanged" ["web", "tree", "out", "new"] (spExch C_Web) := { f := f54, fd := _, ok := G54, gl := (g y126), kp := y127, bd := (F54.binds fun _ _ _ _ _ _ us hl => match us, hl with | [_, _, _, _], _ => rfl) }
  have G55 := ok_pick (P := l.prog) (w := w) (base := base) (mg := mg) F55 S1 F15 (g y10)
  have S57 : Cl l.prog w K mg base 2 "_law_pick" ["_law_dice_here", "_law_items"] (spPick K) := { f := f55, fd := _, ok := G55, gl := (g y133), kp := y134, bd := (F55.binds fun _ _ _ _ _ _ us hl => match us, hl with | [_, _], _ => rfl) }
  have G56 := ok_led (P := l.prog) (w := w) (base := base) (mg := mg) (CW := C_Web) F6 S14 S6 S49 S56 S57
  have S58 : Cl l.prog w K mg base 9 "_law_led_right" ["_law_dice_here", "_law_plain_here", "_law_one", "_law_other"] spLed := { f := f6, fd := _, ok := G56, gl := (g y135), kp := y136, bd := (F6.binds fun _ _ _ _ _ _ us hl => match us, hl with | [_, _, _, _], _ => rfl) }
  have G57 := ok_lwri (P := l.prog) (w := w) (base := base) (mg := mg) F8 F16 (g y15) G5 F18 (g y20) G7
  have S59 : Cl l.prog w K mg base 3 "_law_written" ["_law_way_here"] spLWri := { f := f8, fd := _, ok := G57, gl := (g y137), kp := y138, bd := (F8.binds fun _ _ _ _ _ _ us hl => match us, hl with | [_], _ => rfl) }
  have S60 : Cq18 l.prog w K mg base C_Web := { dice := S2, web := S5, tree := S8, tr := S55, led := S58, made := S14, wri := S59, ringc := S36, wayin := S31, cutc := S49, sideof := S50, T := S4 }
  have G58 := ok_law (P := l.prog) (w := w) (base := base) (mg := mg) (CW := C_Web) F1 S60
  exact G58
theorem facts_law {l : PySem.W.OpenLaw} {w : World} {K : PySem.W.Frag} {h : Heap} {mg : Str → Option Value} {fa : Addr} (X : K.In h) (G : h.Ns mainGlobals mg) (hfa : mg "law" = some (.ref fa)) (c : OwHd.Says fns exs K) : ∃ fd : FuncData, (∀ (s : Shared) (u : Value), BindsTo s fd ⟨[u], []⟩ [("_law_script", u)]) ∧ ∀ base : Heap, K.In base → base.Ns mainGlobals mg → GFn l.prog w K mg base (L2.CX l.prog w) 10 fa fd ["_law_script"] (spLaw K) := by
  have xx0 := c.ex_
  unfold exs at xx0
  simp only [Bool.and_eq_true] at xx0
  obtain ⟨u0, u1, u2, u3, u4, v0⟩ := xx0
  have bb : ∀ (i : Nat) {d : OwHd.Df}, fns[i]? = some d → OwHd.sight K (d.way K) = d.due ∧ d.good K = true := fun i _ e => c.df i e
  unfold ex0 at v0
  simp only [Bool.and_eq_true, decide_eq_true_eq] at v0
  obtain ⟨m_MAX_LETTERS, m_MAX_PLACES, m_MAX_TIES, gr40, gr41⟩ := v0
  obtain ⟨_, m_MAX_LETTERS⟩ := OwHd.intB_ok m_MAX_LETTERS
  obtain ⟨_, m_MAX_PLACES⟩ := OwHd.intB_ok m_MAX_PLACES
  obtain ⟨_, m_MAX_TIES⟩ := OwHd.intB_ok m_MAX_TIES
  have b1 := bb 0 (d := D1) rfl
  obtain ⟨_, _, _, _, _, _, _, _, _, gl1, gc1, gk1, w1⟩ := OwHd.Df.at_ b1.1 b1.2
  have b2 := bb 1 (d := D2) rfl
  obtain ⟨_, _, _, _, _, _, _, _, _, gl2, gc2, gk2, w2⟩ := OwHd.Df.at_ b2.1 b2.2
  have b3 := bb 2 (d := D3) rfl
  obtain ⟨_, _, _, _, _, _, _, _, _, gl3, gc3, gk3, w3⟩ := OwHd.Df.at_ b3.1 b3.2
  have b4 := bb 3 (d := D4) rfl
  obtain ⟨_, _, _, _, _, _, _, _, _, gl4, gc4, gk4, w4⟩ := OwHd.Df.at_ b4.1 b4.2
  have b5 := bb 4 (d := D5) rfl
  obtain ⟨_, _, _, _, _, _, _, _, _, gl5, gc5, gk5, w5⟩ := OwHd.Df.at_ b5.1 b5.2
  have b6 := bb 5 (d := D6) rfl
  obtain ⟨_, _, _, _, _, _, _, _, _, gl6, gc6, gk6, w6⟩ := OwHd.Df.at_ b6.1 b6.2
  have b7 := bb 6 (d := D7) rfl
  obtain ⟨_, _, _, _, _, _, _, _, _, gl7, gc7, gk7, w7⟩ := OwHd.Df.at_ b7.1 b7.2
  have b8 := bb 7 (d := D8) rfl
  obtain ⟨_, _, _, _, _, _, _, _, _, gl8, gc8, gk8, w8⟩ := OwHd.Df.at_ b8.1 b8.2
  have b9 := bb 8 (d := D9) rfl
  obtain ⟨_, _, _, _, _, _, _, _, _, gl9, gc9, gk9, w9⟩ := OwHd.Df.at_ b9.1 b9.2
  have b10 := bb 9 (d := D10) rfl
  obtain ⟨_, _, _, _, _, _, _, _, _, gl10, gc10, gk10, w10⟩ := OwHd.Df.at_ b10.1 b10.2
  have b11 := bb 10 (d := D11) rfl
  obtain ⟨_, _, _, _, _, _, _, _, _, gl11, gc11, gk11, w11⟩ := OwHd.Df.at_ b11.1 b11.2
  have b12 := bb 11 (d := D12) rfl
  obtain ⟨_, _, _, _, _, _, _, _, _, gl12, gc12, gk12, w12⟩ := OwHd.Df.at_ b12.1 b12.2
  have b13 := bb 12 (d := D13) rfl
  obtain ⟨_, _, _, _, _, _, _, _, _, gl13, gc13, gk13, w13⟩ := OwHd.Df.at_ b13.1 b13.2
  have b14 := bb 13 (d := D14) rfl
  obtain ⟨_, _, _, _, _, _, _, _, _, gl14, gc14, gk14, w14⟩ := OwHd.Df.at_ b14.1 b14.2
  have b15 := bb 14 (d := D15) rfl
  obtain ⟨_, _, _, _, _, _, _, _, _, gl15, gc15, gk15, w15⟩ := OwHd.Df.at_ b15.1 b15.2
  have b16 := bb 15 (d := D16) rfl
  obtain ⟨_, _, _, _, _, _, _, _, _, gl16, gc16, gk16, w16⟩ := OwHd.Df.at_ b16.1 b16.2
  have b17 := bb 16 (d := D17) rfl
  obtain ⟨_, _, _, _, _, _, _, _, _, gl17, gc17, gk17, w17⟩ := OwHd.Df.at_ b17.1 b17.2
  have b18 := bb 17 (d := D18) rfl
  obtain ⟨_, _, _, _, _, _, _, _, _, gl18, gc18, gk18, w18⟩ := OwHd.Df.at_ b18.1 b18.2
  have b19 := bb 18 (d := D19) rfl
  obtain ⟨_, _, _, _, _, _, _, _, _, gl19, gc19, gk19, w19⟩ := OwHd.Df.at_ b19.1 b19.2
  have b20 := bb 19 (d := D20) rfl
  obtain ⟨_, _, _, _, _, _, _, _, _, gl20, gc20, gk20, w20⟩ := OwHd.Df.at_ b20.1 b20.2
  have b21 := bb 20 (d := D21) rfl
  obtain ⟨_, _, _, _, _, _, _, _, _, gl21, gc21, gk21, w21⟩ := OwHd.Df.at_ b21.1 b21.2
  have b22 := bb 21 (d := D22) rfl
  obtain ⟨_, _, _, _, _, _, _, _, _, gl22, gc22, gk22, w22⟩ := OwHd.Df.at_ b22.1 b22.2
  have b23 := bb 22 (d := D23) rfl
  obtain ⟨_, _, _, _, _, _, _, _, _, gl23, gc23, gk23, w23⟩ := OwHd.Df.at_ b23.1 b23.2
  have b24 := bb 23 (d := D24) rfl
  obtain ⟨_, _, _, _, _, _, _, _, _, gl24, gc24, gk24, w24⟩ := OwHd.Df.at_ b24.1 b24.2
  have b25 := bb 24 (d := D25) rfl
  obtain ⟨_, _, _, _, _, _, _, _, _, gl25, gc25, gk25, w25⟩ := OwHd.Df.at_ b25.1 b25.2
  have b26 := bb 25 (d := D26) rfl
  obtain ⟨_, _, _, _, _, _, _, _, _, gl26, gc26, gk26, w26⟩ := OwHd.Df.at_ b26.1 b26.2
  have b27 := bb 26 (d := D27) rfl
  obtain ⟨_, _, _, _, _, _, _, _, _, gl27, gc27, gk27, w27⟩ := OwHd.Df.at_ b27.1 b27.2
  have b28 := bb 27 (d := D28) rfl
  obtain ⟨_, _, _, _, _, _, _, _, _, gl28, gc28, gk28, w28⟩ := OwHd.Df.at_ b28.1 b28.2
  have b29 := bb 28 (d := D29) rfl
  obtain ⟨_, _, _, _, _, _, _, _, _, gl29, gc29, gk29, w29⟩ := OwHd.Df.at_ b29.1 b29.2
  have b30 := bb 29 (d := D30) rfl
  obtain ⟨_, _, _, _, _, _, _, _, _, gl30, gc30, gk30, w30⟩ := OwHd.Df.at_ b30.1 b30.2
  have b31 := bb 30 (d := D31) rfl
  obtain ⟨_, _, _, _, _, _, _, _, _, gl31, gc31, gk31, w31⟩ := OwHd.Df.at_ b31.1 b31.2
  have b32 := bb 31 (d := D32) rfl
  obtain ⟨_, _, _, _, _, _, _, _, _, gl32, gc32, gk32, w32⟩ := OwHd.Df.at_ b32.1 b32.2
  have b33 := bb 32 (d := D33) rfl
  obtain ⟨_, _, _, _, _, _, _, _, _, gl33, gc33, gk33, w33⟩ := OwHd.Df.at_ b33.1 b33.2
  have b34 := bb 33 (d := D34) rfl
  obtain ⟨_, _, _, _, _, _, _, _, _, gl34, gc34, gk34, w34⟩ := OwHd.Df.at_ b34.1 b34.2
  have b35 := bb 34 (d := D35) rfl
  obtain ⟨_, _, _, _, _, _, _, _, _, gl35, gc35, gk35, w35⟩ := OwHd.Df.at_ b35.1 b35.2
  have b36 := bb 35 (d := D36) rfl
  obtain ⟨_, _, _, _, _, _, _, _, _, gl36, gc36, gk36, w36⟩ := OwHd.Df.at_ b36.1 b36.2
  have b37 := bb 36 (d := D37) rfl
  obtain ⟨_, _, _, _, _, _, _, _, _, gl37, gc37, gk37, w37⟩ := OwHd.Df.at_ b37.1 b37.2
  have b38 := bb 37 (d := D38) rfl
  obtain ⟨_, _, _, _, _, _, _, _, _, gl38, gc38, gk38, w38⟩ := OwHd.Df.at_ b38.1 b38.2
  have b39 := bb 38 (d := D39) rfl
  obtain ⟨_, _, _, _, _, _, _, _, _, gl39, gc39, gk39, w39⟩ := OwHd.Df.at_ b39.1 b39.2
  have b40 := bb 39 (d := D40) rfl
  obtain ⟨_, _, _, _, _, _, _, _, _, gl40, gc40, gk40, w40⟩ := OwHd.Df.at_ b40.1 b40.2
  have b41 := bb 40 (d := D41) rfl
  obtain ⟨_, _, _, _, _, _, _, _, _, gl41, gc41, gk41, w41⟩ := OwHd.Df.at_ b41.1 b41.2
  have b42 := bb 41 (d := D42) rfl
  obtain ⟨_, _, _, _, _, _, _, _, _, gl42, gc42, gk42, w42⟩ := OwHd.Df.at_ b42.1 b42.2
  have b43 := bb 42 (d := D43) rfl
  obtain ⟨_, _, _, _, _, _, _, _, _, gl43, gc43, gk43, w43⟩ := OwHd.Df.at_ b43.1 b43.2
  have b44 := bb 43 (d := D44) rfl
  obtain ⟨_, _, _, _, _, _, _, _, _, gl44, gc44, gk44, w44⟩ := OwHd.Df.at_ b44.1 b44.2
  have b45 := bb 44 (d := D45) rfl
  obtain ⟨_, _, _, _, _, _, _, _, _, gl45, gc45, gk45, w45⟩ := OwHd.Df.at_ b45.1 b45.2
  have b46 := bb 45 (d := D46) rfl
  obtain ⟨_, _, _, _, _, _, _, _, _, gl46, gc46, gk46, w46⟩ := OwHd.Df.at_ b46.1 b46.2
  have b47 := bb 46 (d := D47) rfl
  obtain ⟨_, _, _, _, _, _, _, _, _, gl47, gc47, gk47, w47⟩ := OwHd.Df.at_ b47.1 b47.2
  have b48 := bb 47 (d := D48) rfl
  obtain ⟨_, _, _, _, _, _, _, _, _, gl48, gc48, gk48, w48⟩ := OwHd.Df.at_ b48.1 b48.2
  have b49 := bb 48 (d := D49) rfl
  obtain ⟨_, _, _, _, _, _, _, _, _, gl49, gc49, gk49, w49⟩ := OwHd.Df.at_ b49.1 b49.2
  have b50 := bb 49 (d := D50) rfl
  obtain ⟨_, _, _, _, _, _, _, _, _, gl50, gc50, gk50, w50⟩ := OwHd.Df.at_ b50.1 b50.2
  have b51 := bb 50 (d := D51) rfl
  obtain ⟨_, _, _, _, _, _, _, _, _, gl51, gc51, gk51, w51⟩ := OwHd.Df.at_ b51.1 b51.2
  have b52 := bb 51 (d := D52) rfl
  obtain ⟨_, _, _, _, _, _, _, _, _, gl52, gc52, gk52, w52⟩ := OwHd.Df.at_ b52.1 b52.2
  have b53 := bb 52 (d := D53) rfl
  obtain ⟨_, _, _, _, _, _, _, _, _, gl53, gc53, gk53, w53⟩ := OwHd.Df.at_ b53.1 b53.2
  have b54 := bb 53 (d := D54) rfl
  obtain ⟨_, _, _, _, _, _, _, _, _, gl54, gc54, gk54, w54⟩ := OwHd.Df.at_ b54.1 b54.2
  have b55 := bb 54 (d := D55) rfl
  obtain ⟨_, _, _, _, _, _, _, _, _, gl55, gc55, gk55, w55⟩ := OwHd.Df.at_ b55.1 b55.2
  clear c bb b1 b2 b3 b4 b5 b6 b7 b8 b9 b10 b11 b12 b13 b14 b15 b16 b17 b18 b19 b20 b21 b22 b23 b24 b25 b26 b27 b28 b29 b30 b31 b32 b33 b34 b35 b36 b37 b38 b39 b40 b41 b42 b43 b44 b45 b46 b47 b48 b49 b50 b51 b52 b53 b54 b55
  unfold clsB0 at u0
  simp only [Bool.and_eq_true, decide_eq_true_eq] at u0
  obtain ⟨y0, y1, y2, y3, y4, y5, y6, y7, y8, y9, y10, y11, y12, y13, y14, y15, y16, y17, y18, y19, y20, y21, y22, y23, y24, y25, y26, y27, y28, y29⟩ := u0
  unfold clsB1 at u1
  simp only [Bool.and_eq_true, decide_eq_true_eq] at u1
  obtain ⟨y30, y31, y32, y33, y34, y35, y36, y37, y38, y39, y40, y41, y42, y43, y44, y45, y46, y47, y48, y49, y50, y51, y52, y53, y54, y55, y56, y57, y58, y59⟩ := u1
  unfold clsB2 at u2
  simp only [Bool.and_eq_true, decide_eq_true_eq] at u2
  obtain ⟨y60, y61, y62, y63, y64, y65, y66, y67, y68, y69, y70, y71, y72, y73, y74, y75, y76, y77, y78, y79, y80, y81, y82, y83, y84, y85, y86, y87, y88, y89⟩ := u2
  unfold clsB3 at u3
  simp only [Bool.and_eq_true, decide_eq_true_eq] at u3
  obtain ⟨y90, y91, y92, y93, y94, y95, y96, y97, y98, y99, y100, y101, y102, y103, y104, y105, y106, y107, y108, y109, y110, y111, y112, y113, y114, y115, y116, y117, y118, y119⟩ := u3
  unfold clsB4 at u4
  simp only [Bool.and_eq_true, decide_eq_true_eq] at u4
  obtain ⟨y120, y121, y122, y123, y124, y125, y126, y127, y128, y129, y130, y131, y132, y133, y134, y135, y136, y137, y138⟩ := u4
  exact all_mk X G hfa gl1 gc1 gk1 gl2 gc2 gk2 gl3 gc3 gk3 gl4 gc4 gk4 gl5 gc5 gk5 gl6 gc6 gk6 gl7 gc7 gk7 gl8 gc8 gk8 gl9 gc9 gk9 gl10 gc10 gk10 gl11 gc11 gk11 gl12 gc12 gk12 gl13 gc13 gk13 gl14 gc14 gk14 gl15 gc15 gk15 gl16 gc16 gk16 gl17 gc17 gk17 gl18 gc18 gk18 gl19 gc19 gk19 gl20 gc20 gk20 gl21 gc21 gk21 gl22 gc22 gk22 gl23 gc23 gk23 gl24 gc24 gk24 gl25 gc25 gk25 gl26 gc26 gk26 gl27 gc27 gk27 gl28 gc28 gk28 gl29 gc29 gk29 gl30 gc30 gk30 gl31 gc31 gk31 gl32 gc32 gk32 gl33 gc33 gk33 gl34 gc34 gk34 gl35 gc35 gk35 gl36 gc36 gk36 gl37 gc37 gk37 gl38 gc38 gk38 gl39 gc39 gk39 gl40 gc40 gk40 gl41 gc41 gk41 gl42 gc42 gk42 gl43 gc43 gk43 gl44 gc44 gk44 gl45 gc45 gk45 gl46 gc46 gk46 gl47 gc47 gk47 gl48 gc48 gk48 gl49 gc49 gk49 gl50 gc50 gk50 gl51 gc51 gk51 gl52 gc52 gk52 gl53 gc53 gk53 gl54 gc54 gk54 gl55 gc55 gk55 m_MAX_LETTERS m_MAX_PLACES m_MAX_TIES gr40 gr41 y0 y1 y2 y3 y4 y5 y6 y7 y8 y9 y10 y11 y12 y13 y14 y15 y16 y17 y18 y19 y20 y21 y22 y23 y24 y25 y26 y27 y28 y29 y30 y31 y32 y33 y34 y35 y36 y37 y38 y39 y40 y41 y42 y43 y44 y45 y46 y47 y48 y49 y50 y51 y52 y53 y54 y55 y56 y57 y58 y59 y60 y61 y62 y63 y64 y65 y66 y67 y68 y69 y70 y71 y72 y73 y74 y75 y76 y77 y78 y79 y80 y81 y82 y83 y84 y85 y86 y87 y88 y89 y90 y91 y92 y93 y94 y95 y96 y97 y98 y99 y100 y101 y102 y103 y104 y105 y106 y107 y108 y109 y110 y111 y112 y113 y114 y115 y116 y117 y118 y119 y120 y121 y122 y123 y124 y125 y126 y127 y128 y129 y130 y131 y132 y133 y134 y135 y136 y137 y138
end OwW

namespace OwX
open PySem PySem.Spec PyProof.Rows L2
/-- a law over a head by facts, where no guard stands -/
theorem walk_ofGE {l : PySem.W.OpenLaw} {n k : Nat} {x : Str} {q : Program} {loose : List Str} {XP : (Str → Option Value) → Heap → Prop} {YP : World → Heap → Prop} {d : DefRec} (hn : l.most = some n) (hn2 : n ≤ sizeLine) (hdf : d.params.defaults = []) (hr : Room k callerA)
    (F : ∀ (w : World) (mg : Str → Option Value) (fa : Addr) (h : Heap), YP w h → h.Ns mainGlobals mg → mg d.name = some (.ref fa) →
      ∃ (K : PySem.W.Frag) (fd : FuncData) (sp : Sp), (K.In h ∧ ∀ (s : Shared) (u : Value), BindsTo s fd ⟨[u], []⟩ [(x, u)]) ∧ (∀ (H : Hp) (a : Addr) (ns : List Int), SqL K H a (ns.map V.int) → sp [.ref a] H (fun v _ => v = .bl true) fun _ _ _ => False) ∧
        ∀ base : Heap, K.In base → base.Ns mainGlobals mg → GFn l.prog w K mg base (L2.CX l.prog w) k fa fd [x] sp) : PySem.W.WalkO q loose XP YP l.row.toRowW d [] (fun f vs => PySem.call f vs) := by
  refine Att.attach_call hn hdf fun w _ s1 mg mb fa _ _ _ _ a us ns G Y _ _ _ hmg ga hi hlen hg => ?_
  obtain ⟨K, fd, sp, ⟨KX, hb⟩, hs, GF⟩ := F w mg fa _ Y G.T.g hmg
  exact law_callG KX G.T.g G.T.b G.T.builtins G.T.nolimit hg ga hi (Nat.le_trans hlen hn2) hr GF hb fun H sq => hs H a ns sq
end OwX
open PySem PySem.W PySem.Calls PyProof.Rows
set_option maxRecDepth 100000 in
set_option maxHeartbeats 0 in
theorem PySem.Challenge.cw_owedround_k18_whole_ways_rings_and_cuts_holds : PySem.Challenge.rw_owedround_k18_whole_ways_rings_and_cuts.Holds := by
  w_on; o_law
  refine HandSHeadRun.head_any (r := OpenLaw.row PySem.Challenge.rw_owedround_k18_whole_ways_rings_and_cuts) (q := view (OpenLaw.row PySem.Challenge.rw_owedround_k18_whole_ways_rings_and_cuts).prog [65]) (H := OwW.hk) (ob := OwW.obK) (M := 9000) (loose := OwW.looseL) (d := HandSHeadRun.topDef (OpenLaw.row PySem.Challenge.rw_owedround_k18_whole_ways_rings_and_cuts).prog 65) (kwd := []) OwW.obK_eq
    (by kernel_rfl) (fun s => by kernel_rfl) OwW.runK (by kernel_rfl) (by kernel_rfl) (by kernel_rfl) (by rfl) (by first | assumption | decide +kernel) (by decide +kernel) ⟨rfl, rfl, rfl, rfl, rfl, by decide +kernel⟩ ?hw ?hc
  case hw => w_witness2
  case hc =>
    refine OwX.walk_ofGE (l := PySem.Challenge.rw_owedround_k18_whole_ways_rings_and_cuts) (n := 63) (k := 10) (x := "_law_script") rfl (by decide) (by kernel_rfl) ⟨rfl, by decide, by decide⟩ fun w mg fa h Y G hm0 => ?_
    obtain ⟨K, KX, c⟩ := Y
    have hm : mg ("law" : PySem.Str) = some (.ref fa) := by
      rw [← show (HandSHeadRun.topDef (OpenLaw.row PySem.Challenge.rw_owedround_k18_whole_ways_rings_and_cuts).prog 65).name = ("law" : PySem.Str) by kernel_rfl]
      exact hm0
    obtain ⟨fd, hb, hF⟩ := OwW.facts_law (l := PySem.Challenge.rw_owedround_k18_whole_ways_rings_and_cuts) (w := w) KX G hm c
    exact ⟨K, fd, OwW.spLaw K, ⟨KX, hb⟩, fun H a ns hS => ⟨a, ns, rfl, hS, fun _ => rfl⟩, hF⟩
