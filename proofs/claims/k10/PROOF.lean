import PyProof.Rows.All
import Wide.All
import OpenK.AllK
import Wide.FinOn
import HandS.ForMost
import HandS.ForExc
import HandS.IsInst
import HandS.ExcValue
import HandS.ExcInit
import HandS.ExcIs
import HandS.TryMany
import HandS.Wide
import KE.KExcInit
import KE.KExcIs
import HandS.HotCalls
import HandS.WideBits
import HandS.Evl
import HandS.Walk
import HandS.Text
import HandS.List
import HandS.Gcd
import HandS.Set
import HandS.Strs
import HandS.SetTxt0
import HandS.TupSets
import KE.SortData
import PyProof.FString5
import KE.KDictList
import HandS.Dict
import HandS.WordsDict
import HandS.RaiseMore
import HandS.Flow
import HandS.Iter
import HandS.Style
import HandS.Zip
import HandS.TupAny
import HandS.DictComp
import HandS.Property
import HandS.Deep
import HandS.Small
import HandS.Base
import HandS.Call
import HandS.Words
import HandS.Defaults
import PyProof.InstNe
import PyProof.Rows.PlainNe
import HandS.OwnEq
import KE.KEqDict
import HandS.DeepEq
import HandS.More
import HandS.Star
import PyProof.StrLawsRepr
import PyProof.ReprLen
import PyProof.FitsInt
import HandS.ListItems
import HandS.FStr
import KE.KStateDown
import HandS.Head0
import HandS.Head1
import HandS.Head2
import HandS.HeadEnd
import HandS.HeadHook1
import HandS.HeadHook2
import PySem.Challenge.RW_owedround_k10_whole_lendings_and_plans
set_option Elab.async false
set_option linter.all false
set_option maxRecDepth 100000
set_option maxHeartbeats 4000000
/-! Own error classes whose __init__ keeps one value, over any built-in base: made, kept, read, raised. -/
namespace OwF
open PySem PySem.F
theorem storeKey : StoreFacts "KeyError" [.type "KeyError", .type "LookupError", .type "Exception", .type "BaseException", .type "object"] "object.__setattr__" "object" :=
  { mro := by kernel_rfl, entry := entry_object_sa, kind := by decide +kernel, split := by decide +kernel, hasOwner := by decide +kernel, args := (fun _ _ _ => by (unfold argsOk; kernel_rfl)), passes := (fun _ => by kernel_rfl)
    slot := .of (owner := "object") (n := "__setattr__") (by (rw [typeLookup_type, builtinLookup_eq_fast]; kernel_rfl)) (by decide +kernel) (by decide +kernel) (by decide +kernel) (by (first | exact .inl (by decide +kernel) | exact .inr (by decide +kernel))) (by (rw [isSubtype_type]; kernel_rfl)) }
end OwF
namespace OwX
open PySem PySem.W PySem.Calls PyProof.Rows PySem.HandSPX
/-- what the tail of an own class's order of bases must have, beside the facts of the base that makes its instances -/
structure Tl (bm : List Value) (B : String) : Prop where
  b : bm.contains (.type B) = true
  a : bm.contains (.type "AttributeError") = false
  n : bm.contains (.type "NameError") = false
section
variable {M : Model} {prog : Program} {w : World} {A : Around} {E : Value → Shared → Prop} {R : Result → Shared → Prop} {h : Heap} {g : Array GenState} {d : Drawn} {t : Nat} {os : OsState}
variable {nm q : Str} {C N : Addr} {bs bm bmB : List Value} {hdct : Bool} {sn : List Str} {sub : List Value} {ab : Bool} {col : Option Bool} {dd : Option Addr} {k0 k1 k2 k3 k5 : Option Value} {B newId initId : String}
theorem tl_check (F : ExcBaseFacts B newId initId bmB) (T : Tl bm B) {rest : List Value} {Q : Unit → Shared → Prop} (hC : h.get? C = some (excClassObj nm q C N bs bm hdct sn sub ab col dd k0 k1 k2 k3 k5 newId)) (hq : Q () ⟨h, g, d, t, os⟩) :
    wpAny M A (checkBuiltinCall newId ⟨.ref C :: rest, []⟩) Q E ⟨h, g, d, t, os⟩ := by
  have c1 : (Value.ref C :: bm).contains (.type B) = true := by (rw [List.contains_cons, T.b, Bool.or_true])
  have c2 := F.noStar
  simp only [checkBuiltinCall, F.newKind, F.newSplit, F.newRow]
  repeat (first | (refine wpAny_loadPart_at hC ?_) | (refine wpAny_isSubtype_exc hC ?_; (rw [c1])) | (refine wpAny_staticBase_exc hC ?_) | (refine wpAny_madeBy_exc hC ?_) | (simp only [bne_self_eq_false, Bool.false_eq_true, if_false]) | wp_step)
  exact hq
theorem tl_new (F : ExcBaseFacts B newId initId bmB) (T : Tl bm B) {rest : List Value} (hC : h.get? C = some (excClassObj nm q C N bs bm hdct sn sub ab col dd k0 k1 k2 k3 k5 newId)) (hz : rest.length ≤ sizeLine)
    (hq : R (.ok (.ret (.ref (h.objs.size + 1)))) ⟨(h.push { cls := .type "tuple", data := .seq rest.toArray }).push { cls := .ref C, data := .fields #[.ref h.objs.size, .none, .none, .none, .bool false, .none] }, g, d, t, os⟩) :
    codeAny (model prog w) A (.builtin newId ⟨.ref C :: rest, []⟩) R ⟨h, g, d, t, os⟩ := by
  have c0 := F.ends
  have c1 : (Value.ref C :: bm).contains (.type B) = true := by (rw [List.contains_cons, T.b, Bool.or_true])
  have c2 : (Value.ref C :: bm).contains (.type "AttributeError") = false := by (rw [List.contains_cons, T.a] <;> rfl)
  have c3 : (Value.ref C :: bm).contains (.type "NameError") = false := by (rw [List.contains_cons, T.n] <;> rfl)
  refine codeAny_builtinAt F.entry ?_
  unfold Builtin.«BaseException.__new__»
  refine PySem.wpAt_bind ?_
  show PySem.wpAt _ _ _ (stack >>= _) _ _ _
  refine PySem.wpAt_bind (PySem.wpAt_stack fun p below => PySem.wpAt_of_wpAny ?_)
  wp_walk
  refine PySem.wpAt_of_wpAny ?_
  rw [F.owner]
  repeat (first | (with_reducible refine wpAny_madeHere_exc F.canon hC ?_) | (with_reducible refine wpAny_loadPart_at hC ?_) | (with_reducible refine wpAny_isSubtype_exc hC ?_; first | (rw [c1]) | (rw [c2]) | (rw [c3])) | wp_step)
  show R _ _
  rw [Heap.size_push]
  exact hq
theorem tl_type (F : ExcBaseFacts B newId initId bmB) (T : Tl bm B) {rest : List Value} {fI : Addr} {Q : Fin → Shared → Prop} (hC : h.get? C = some (excClassObj nm q C N bs bm hdct sn sub ab col dd k0 k1 k2 k3 k5 newId))
    (hi : W.Looks (model prog w) h (typeLookup (.ref C) "__init__") (some (.ref fI))) (hb : ∀ self, W.Looks (model prog w) h (bindSpecial (.ref fI) self) (.ref fI, [self])) (hz : rest.length ≤ sizeLine)
    (hq : codeAny (model prog w) A (.call (.ref fI) ⟨.ref (h.objs.size + 1) :: rest, []⟩) (fun r s' => match r with | .ok (.ret v) => v = .none ∧ Q (.done (.ret (.ref (h.objs.size + 1)))) s' | .ok _ => False | .error e => E e s')
      ⟨(h.push (W.kdv_tup rest)).push (excO C h.objs.size), g, d, t, os⟩) : wpAny (model prog w) A (Builtin.«type.__call__» ⟨.ref C :: rest, []⟩) Q E ⟨h, g, d, t, os⟩ := by
  repeat (first | (with_reducible refine wpAny_loadPart_at hC ?_) | (with_reducible refine wpAny_madeBy_exc hC ?_) | wp_step)
  refine codeAny_call_builtin_code (Code.quiet_builtin _ F.quiet) (tl_check F T hC (tl_new F T hC hz ?_))
  show wpAny _ _ _ _ _ _
  have kp : ∀ b o, h.get? b = some o → ((h.push (W.kdv_tup rest)).push (excO C h.objs.size)).get? b = some o := fun _ _ e => Heap.get?_push_of_some _ (Heap.get?_push_of_some _ e)
  have hC₁ := kp _ _ hC
  have hnew : ((h.push (W.kdv_tup rest)).push (excO C h.objs.size)).get? (h.objs.size + 1) = some (excO C h.objs.size) := by heap_get
  have c4 : (Value.ref C :: bm).contains (.ref C) = true := by simp
  have i1 := hi.keeps kp
  have b1 := (hb (.ref (h.objs.size + 1))).keeps kp
  unfold isInstance
  repeat (first | (with_reducible refine wpAny_loadPart_at hnew ?_) | (with_reducible refine wpAny_isSubtype_exc hC₁ ?_; (rw [c4])) | wp_step)
  show wpAny _ _ (typeLookup (.ref C) _) _ _ _
  refine i1.at (wpAny_holding (wpAny_bind (b1.at (wpAny_bind (wpAny_call (codeAny_mono hq fun r s' z => ?_))))))
  rcases r with e | (v | _ | _ | _) <;> first | exact z | exact z.elim | skip
  obtain ⟨e1, z⟩ := z
  subst e1
  first | exact wpAny_pure (wpAny_pure z) | (wp_walk; exact z)
theorem tl_call (F : ExcBaseFacts B newId initId bmB) (T : Tl bm B) {rest : List Value} {fI : Addr} (hC : h.get? C = some (excClassObj nm q C N bs bm hdct sn sub ab col dd k0 k1 k2 k3 k5 newId))
    (hi : W.Looks (model prog w) h (typeLookup (.ref C) "__init__") (some (.ref fI))) (hb : ∀ self, W.Looks (model prog w) h (bindSpecial (.ref fI) self) (.ref fI, [self])) (hz : rest.length ≤ sizeLine)
    (hq : codeAny (model prog w) (A.under (.builtin "type.__call__" ⟨.ref C :: rest, []⟩)) (.call (.ref fI) ⟨.ref (h.objs.size + 1) :: rest, []⟩) (W.InitBack (h.objs.size + 1) R) ⟨(h.push (W.kdv_tup rest)).push (excO C h.objs.size), g, d, t, os⟩) :
    codeAny (model prog w) A (.call (.ref C) ⟨rest, []⟩) R ⟨h, g, d, t, os⟩ := by
  have t1 := tc_lookup
  have t2 := tc_bind (.ref C)
  have t3 : (⟨h, g, d, t, os⟩ : Shared).TypeIs (.ref C) "type" := ⟨_, hC, rfl⟩
  refine codeAny_of_tree ?_
  show wpAny _ _ (callAny (.ref C) _) _ _ _
  repeat (any_goals (first | assumption | (with_reducible refine wpAny_loadPart_at hC ?_) | wp_step))
  refine ⟨rfl, codeAny_call_builtin_at (Code.quiet_builtin _ (by decide +kernel)) entry_typeCall (wpAny_check_type_call_sub hC (tl_type F T hC hi hb hz ?_))⟩
  refine codeAny_mono hq fun r s' z => ?_
  rcases r with e | (v | _ | _ | _) <;> exact z
end
section
variable {prog : Program} {w : World} {A : Around} {E : Value → Shared → Prop} {R : Result → Shared → Prop} {hp : Heap} {g : Array GenState} {d : Drawn} {t : Nat} {os : OsState}
/-- the first store into an own error, whatever its built-in base -/
theorem store_first {K : W.Frag} {B : String} {bmB : List Value} {name : Str} {tk : Tok} {v : Value} {x C t0 : Addr} (SF : StoreFacts B bmB "object.__setattr__" "object")
    (X : K.In hp) (hx : hp.get? x = some (excO C t0)) (ho : excOver K C bmB = true) (ht : takerIn K C name = some none) (hh : hasDictIn K C = true)
    (hq : ∀ h' tk' dx, (∀ b o, b ≠ x → hp.get? b = some o → h'.get? b = some o) → hp.objs.size ≤ dx → dx ≠ x → h'.get? x = some { cls := .ref C, dict := some dx, data := .fields #[.ref t0, .none, .none, .none, .bool false, .none] } →
      h'.Ns1 dx (fun y => if y = name then some v else none) → R (.ok (.ret .none)) ⟨h', g, d, tk', os⟩) :
    codeAny (model prog w) A (.call (.builtin "object.__setattr__") ⟨[.ref x, .str name tk, v], []⟩) R ⟨hp, g, d, t, os⟩ := by
  have hxs : x ≠ hp.objs.size := Nat.ne_of_lt (Heap.lt_size hx)
  refine osa_openX (s := ⟨hp, g, d, t, os⟩) (od := none) SF X ⟨hx, rfl, rfl, trivial⟩ ho ht fun b => ?_
  obtain ⟨cd, hc, hd'⟩ := any_some hh
  refine wpAny_bind (wpAny_pure (wpAny_bind (instanceDict_exc (s := ⟨hp, g, d, t, os⟩) (c2 := .none) hx (looks_clsIn X hc) hd' ?_)))
  show wpAny _ _ (Builtin.ObjectAttr.storeInDict hp.objs.size (.str name tk) name v) _ _ _
  refine store_in_new (hp := (hp.push (dictOf [] 0)).update x fun o => { o with dict := some hp.objs.size }) ⟨_, #[], _, (Heap.get?_update_ne _ _ _ _ hxs.symm).trans (Heap.get?_push_at rfl rfl), rfl, fun e he => absurd he (by simp), fun _ => rfl⟩ ?_
  intro h' tk' hn' hs
  have hx₁ : (hp.push (dictOf [] 0)).get? x = some (excO C t0) := Heap.get?_push_of_some _ hx
  refine hq h' tk' hp.objs.size (fun b o hb ho => (hs.2 b (Nat.ne_of_lt (Heap.lt_size ho))).trans ((Heap.get?_update_ne _ _ _ _ hb).trans (Heap.get?_push_of_some _ ho))) (Nat.le_refl _) hxs.symm ?_ hn'
  exact (hs.2 x hxs).trans (Heap.get?_update_self _ hx₁ rfl)
end
end OwX

namespace OwX
open PySem PySem.W PySem.Calls PyProof.Rows PySem.HandSPX
/-! ### the text of such an __init__: def __init__(self, f): self.f = f -/
def iA (f : Str) (p1 p2 : Pos) : Arguments := { posonlyargs := [], args := [{ arg := "self", annotation := none, pos := p1 }, { arg := f, annotation := none, pos := p2 }], vararg := none, kwonlyargs := [], kw_defaults := [], kwarg := none, defaults := [] }
def iB (f : Str) (q1 q2 q3 q4 : Pos) : List Stmt := [.Assign [.Attribute (.Name "self" q1) f q2] (.Name f q3) q4]
def iS (f : Str) : Scope := { kind := .function, names := [(PySem.Str.ofString "self", .local), (f, .local)], isGenerator := false, isCoroutine := false, more := [] }
/-- all that is asked of the class at C and its __init__ at fI, as one test -/
def exChk (K : Frag) (C fI : Addr) (f : Str) (bmB : List Value) (newId : String) : Bool :=
  excInitIn K C bmB newId && (excOver K C bmB && (decide (takerIn K C f = some none) && (hasDictIn K C && (decide (findIn K (.ref C) "__setattr__" = some (some (.builtin "object.__setattr__"))) &&
  (decide (findIn K (.ref C) "__getattribute__" = some (some (.builtin "BaseException.__getattribute__"))) && (decide (findIn K (.ref C) "__getattr__" = some none) && (decide (findIn K (.ref C) f = some none) &&
  (decide (findIn K (.ref C) "__init__" = some (some (.ref fI))) && (decide (typeIn K (.ref fI) = some (.type "function")) && (keepIn K (.ref C) && (decide (subIn K (.ref C) (.type "BaseException") = some true) &&
  (decide (typeIn K (.ref C) = some (.type "type")) && (decide (findIn K (.ref C) "__class__" = some (some (.builtin "object.__class__"))) && (decide (specialIn K (.builtin "object.__class__") "__get__" = some (some (.builtin "getset_descriptor.__get__"))) &&
  (decide (takesIn K (.builtin "object.__class__") = some true) && (decide (mroIn K C (.type "object") = some true) && (clsIn K C).isSome))))))))))))))))
structure ExC (K : Frag) (C fI : Addr) (f : Str) (bmB : List Value) (newId : String) : Prop where
  ini : excInitIn K C bmB newId = true
  ovr : excOver K C bmB = true
  tk : takerIn K C f = some none
  hd : hasDictIn K C = true
  sa : findIn K (.ref C) "__setattr__" = some (some (.builtin "object.__setattr__"))
  ga : findIn K (.ref C) "__getattribute__" = some (some (.builtin "BaseException.__getattribute__"))
  gg : findIn K (.ref C) "__getattr__" = some none
  noN : findIn K (.ref C) f = some none
  iC : findIn K (.ref C) "__init__" = some (some (.ref fI))
  tI : typeIn K (.ref fI) = some (.type "function")
  kC : keepIn K (.ref C) = true
  exC : subIn K (.ref C) (.type "BaseException") = some true
  tyC : typeIn K (.ref C) = some (.type "type")
  cc : findIn K (.ref C) "__class__" = some (some (.builtin "object.__class__"))
  cg : specialIn K (.builtin "object.__class__") "__get__" = some (some (.builtin "getset_descriptor.__get__"))
  ct : takesIn K (.builtin "object.__class__") = some true
  mo : mroIn K C (.type "object") = some true
  cs : (clsIn K C).isSome = true
theorem exChk_ok {K : Frag} {C fI : Addr} {f : Str} {bmB : List Value} {newId : String} (h : exChk K C fI f bmB newId = true) : ExC K C fI f bmB newId := by
  unfold exChk at h
  simp only [Bool.and_eq_true, decide_eq_true_eq] at h
  obtain ⟨h1, h2, h3, h4, h5, h6, h7, h8, h9, h10, h11, h12, h13, h14, h15, h16, h17, h18⟩ := h
  exact ⟨h1, h2, h3, h4, h5, h6, h7, h8, h9, h10, h11, h12, h13, h14, h15, h16, h17, h18⟩
/-- how its two arguments are bound: rfl at a written name -/
def BindF (f : Str) : Prop := ∀ (qual : Str) (p1 p2 q1 q2 q3 q4 : Pos) (doc pm cdv ct u v : Value) (an : Option Addr), bindArgs (fnOf "__init__" qual (iA f p1 p2) (iB f q1 q2 q3 q4) (iS f) .none .none doc pm an cdv ct) ⟨[u, v], []⟩ = pure [(("self" : Str), u), (f, v)]
/-- an own error class with such an __init__ -/
structure ETxt (K : Frag) (mg : Str → Option Value) (nm qual : Str) (C fI : Addr) (f : Str) : Prop where
  gC : mg nm = some (.ref C)
  fs : (f == ("self" : Str)) = false
  fd : (f == ("__debug__" : Str)) = false
  bi : BindF f
  ba : ∃ (B B' newId initId : String) (bmN bmB : List Value), ExcBaseFacts B newId initId bmN ∧ StoreFacts B' bmB "object.__setattr__" "object" ∧ Tl bmB B ∧ ExC K C fI f bmB newId
  fn : ∃ (oc : Value) (od : Option Addr) (doc pm : Value) (an : Option Addr) (cdv ct : Value) (osl : Array (Option Value)) (p1 p2 q1 q2 q3 q4 : Pos),
    K.lookup fI = some ⟨oc, od, .func (fnOf "__init__" qual (iA f p1 p2) (iB f q1 q2 q3 q4) (iS f) .none .none doc pm an cdv ct), osl⟩ ∧ codeIn K cdv qual = true
theorem one_size (v : Value) : [v].length ≤ sizeLine := by
  rw [sizeLine_eq]
  exact (by decide : 1 ≤ 16777216)
theorem ldC {M : Model} {s : Shared} {name : Str} {scope : Scope} {L a : Addr} {cd : Value} {m : Str → Option Value} {x : Str} {pos : Pos} {v : Value} {Q : Value → Shared → Prop} {A : Around} {E : Value → Shared → Prop} (hn : s.heap.Ns L m) (hv : m x = some v) (h : Q v s)
    (hk : scope.kind = .function := by rfl) (hl : (envOfC name scope L a cd).kindOf x = some .local := by rfl) (hd : (x == ("__debug__" : Str)) = false := by decide) :
    wpAny M A (eval (.Name x pos) (envOfC name scope L a cd)) Q E s := wpAny_Name (wpAny_loadName_local hk hl hn hv h) hd
/-- what __init__ leaves of a fresh exception at x -/
structure InitEnd (h h' : Heap) (x C dx t1 : Addr) (f : Str) (v : Value) : Prop where
  keep : ∀ b o, b ≠ x → h.get? b = some o → h'.get? b = some o
  obj : h'.get? x = some { cls := .ref C, dict := some dx, data := .fields #[.ref t1, .none, .none, .none, .bool false, .none] }
  dbig : h.objs.size ≤ dx
  dne : dx ≠ x
  ns : h'.Ns1 dx (fun y => if y = f then some v else none)
structure OwnMade (h h' : Heap) (e C d t1 : Addr) (f : Str) (v : Value) : Prop where
  keep : ∀ b o, h.get? b = some o → h'.get? b = some o
  new : h.objs.size ≤ e
  obj : h'.get? e = some { cls := .ref C, dict := some d, data := .fields #[.ref t1, .none, .none, .none, .bool false, .none] }
  dbig : h.objs.size ≤ d
  dne : d ≠ e
  ns : h'.Ns1 d (fun y => if y = f then some v else none)
section
variable {prog : Program} {w : World} {A : Around} {E : Value → Shared → Prop} {R : Result → Shared → Prop} {s : Shared} {K : Frag} {mg : Str → Option Value} {nm qual : Str} {C fI : Addr} {f : Str}
theorem ex_init (T : ETxt K mg nm qual C fI f) {x t0 : Addr} {v : Value} (X : K.In s.heap) (hlim : s.heap.NoLimit) (hx : s.heap.get? x = some (excO C t0)) (hroom : A.depth < recursionLimit)
    (hq : ∀ h' tk dx, InitEnd s.heap h' x C dx t0 f v → R (.ok (.ret .none)) { s with heap := h', toks := tk }) :
    codeAny (model prog w) A (.call (.ref fI) ⟨[.ref x, v], []⟩) R s := by
  obtain ⟨oc, od, doc, pm, an, cdv, ct, osl, p1, p2, q1, q2, q3, q4, ho, hcd⟩ := T.fn
  obtain ⟨B, B', newId, initId, bmN, bmB, FB, SF, TB, EC⟩ := T.ba
  have hfs := T.fs
  have hl2 : List.lookup f ([(PySem.Str.ofString "self", .local), (f, .local)] : List (Str × NameKind)) = some .local := by simp [List.lookup, hfs]
  refine Att.call_fn (binds := [("self", .ref x), (f, v)]) X hlim ho hcd hroom (BindsTo.of_eq (T.bi _ _ _ _ _ _ _ _ _ _ _ _ _ _)) ?_ (fun s₁ IC => ?_) rfl rfl rfl
  · simp [iS, List.lookup, hfs]
  obtain ⟨h₁, tk₁, rfl⟩ := IC.toInCall.same
  have k : ∀ b o, s.heap.get? b = some o → h₁.get? b = some o := IC.toInCall.keep
  have hn := IC.toInCall.ns
  have X₁ : K.In h₁ := X.keeps k
  have hx₁ := k _ _ hx
  have kf : (envOfC qual (iS f) s.heap.objs.size fI cdv).kindOf f = some .local := hl2
  show wpAny _ _ (execs _ _) _ _ _
  refine wpAny_execs_cons (plainObj_wpAny_Assign_Attribute ?_)
  refine ldC (v := v) hn ?_ (ldC (v := .ref x) hn ?_ ?_) rfl kf T.fd
  · simp [bindL, kf]
  · have ks : (envOfC qual (iS f) s.heap.objs.size fI cdv).kindOf "self" = some .local := rfl
    have hsf : (("self" : Str) == f) = false := by
      rw [← hfs]
      exact Bool.eq_iff_iff.mpr ⟨fun z => beq_iff_eq.mpr (beq_iff_eq.mp z).symm, fun z => beq_iff_eq.mpr (beq_iff_eq.mp z).symm⟩
    have hsn : ¬ ("self" : Str) = f := fun z => by rw [beq_iff_eq.mpr z] at hsf; cases hsf
    simp [bindL, kf, ks, hsn]
  refine set_plain X₁ (ox := excO C t0) (od := none) ⟨hx₁, rfl, rfl, trivial⟩ EC.sa ?_
  refine store_first SF X₁ hx₁ EC.ovr EC.tk EC.hd (fun h₃ tk₃ dx k₃ dn dne hx₃ hn₃ => ?_)
  show wpAny _ _ (execs _ _) _ _ _
  have z : s.heap.objs.size < h₁.objs.size := hn.lt
  exact wpAny_execs_nil (hq h₃ tk₃ dx ⟨fun b o hb e => k₃ b o hb (k b o e), hx₃, Nat.le_of_lt (Nat.lt_of_lt_of_le z dn), dne, hn₃⟩)
end
end OwX

namespace OwX
open PySem PySem.W PySem.Calls PyProof.Rows PySem.HandSPX
section
variable {prog : Program} {w : World} {A : Around} {E : Value → Shared → Prop} {R : Result → Shared → Prop} {s : Shared} {K : Frag} {mg : Str → Option Value} {nm qual : Str} {C fI : Addr} {f : Str}
theorem ex_made (T : ETxt K mg nm qual C fI f) {v : Value} (X : K.In s.heap) (hlim : s.heap.NoLimit) (hroom : A.depth + 1 < recursionLimit)
    (hq : ∀ h' tk e d t1, OwnMade s.heap h' e C d t1 f v → R (.ok (.ret (.ref e))) { s with heap := h', toks := tk }) :
    codeAny (model prog w) A (.call (.ref C) ⟨[v], []⟩) R s := by
  obtain ⟨B, B', newId, initId, bmN, bmB, FB, SF, TB, EC⟩ := T.ba
  obtain ⟨nm', N, qn, bs, bm, hdct, sn, sub, ab, col, dd, k0, k1, k2, k3, k5, hC, hT⟩ := excInit_of X EC.ini
  have TL : Tl bm B := ⟨by rw [hT]; exact TB.b, by rw [hT]; exact TB.a, by rw [hT]; exact TB.n⟩
  obtain ⟨hp, g, dr, tk, os⟩ := s
  have k : ∀ b o, hp.get? b = some o → ((hp.push (kdv_tup [v])).push (excO C hp.objs.size)).get? b = some o := fun b o e => Heap.get?_push_of_some _ (Heap.get?_push_of_some _ e)
  have hget : ((hp.push (kdv_tup [v])).push (excO C hp.objs.size)).get? (hp.objs.size + 1) = some (excO C hp.objs.size) := by heap_get
  refine tl_call FB TL hC (looks_findIn X EC.iC) (fun self => bind_fn X self EC.tI) (one_size v) ?_
  refine ex_init (s := ⟨(hp.push (kdv_tup [v])).push (excO C hp.objs.size), g, dr, tk, os⟩) T (X.keeps k) (hlim.keeps k) hget ?_ fun h' tk' dx ⟨k', hx, dn, dne, hns⟩ => ?_
  · show A.depth + 1 < recursionLimit
    exact hroom
  · have old : ∀ b o, hp.get? b = some o → h'.get? b = some o := fun b o e => k' b o (Nat.ne_of_lt (Nat.lt_succ_of_lt (Heap.lt_size e))) (k b o e)
    have z : hp.objs.size + 1 + 1 ≤ dx := by
      have q := dn
      first
        | exact q
        | (rw [Heap.size_push, Heap.size_push] at q; exact q)
    exact ⟨rfl, hq h' tk' (hp.objs.size + 1) dx hp.objs.size ⟨old, Nat.le_succ _, hx, Nat.le_trans (Nat.le_trans (Nat.le_succ _) (Nat.le_succ _)) z, dne, hns⟩⟩
end
end OwX
namespace OwX
open PySem PySem.Spec PyProof.Rows L2
theorem relO_one {v : V} {v' : Value} (r : RelV v v') (f g : Str) : RelO (List.lookup g [(f, v)]) (if g = f then some v' else none) := by
  by_cases hw : g = f
  · subst hw
    rw [if_pos rfl]
    have q : List.lookup g [(g, v)] = some v := by simp [List.lookup]
    rw [q]
    exact r
  · rw [if_neg hw]
    have qw : (g == f) = false := by simpa using hw
    have q2 : List.lookup g [(f, v)] = none := by simp [List.lookup, qw]
    rw [q2]
    trivial
section
variable {X : Cx} {nm qual : Str} {C fI : Addr} {f : Str}
/-- both objects of a made error are tracked -/
theorem ex_inv {pins : List (Addr × Obj)} {σ : L2.St} {H : Hp} {s : Shared} {h' : Heap} {tk : Nat} {e d t1 : Addr} {v : V} {v' : Value} (I : Inv X pins σ H s) (rv : RelV v v') (M : OwnMade s.heap h' e C d t1 f v') :
    H e = none ∧ H d = none ∧ Inv X pins σ (upd (upd H d (exd d [(f, v)])) e (exo e C (some d))) { s with heap := h', toks := tk } := by
  have He := I.hok.fresh M.new
  have Hd := I.hok.fresh M.dbig
  refine ⟨He, Hd, ?_⟩
  obtain ⟨G, g1, g2⟩ := restrict h' fun b => decide (b ≠ e)
  have gk : ∀ b, b ≠ e → G.get? b = h'.get? b := fun b hb => g1 b (decide_eq_true hb)
  have ge : G.get? e = none := g2 e (by simp)
  have old : ∀ b o, s.heap.get? b = some o → G.get? b = some o := fun b o q => (gk b (Nat.ne_of_lt (Nat.lt_of_lt_of_le (Heap.lt_size q) M.new))).trans (M.keep b o q)
  have nd : s.heap.get? d = none := Heap.get?_none_of_le M.dbig
  have J : Inv X pins σ (upd H d (exd d [(f, v)])) { s with heap := G, toks := tk } :=
    I.laidN old nd Hd (exd_ok (M.ns.at (fun o q => (gk d M.dne).trans q)) fun g => relO_one rv f g)
  have gh : ∀ b o, G.get? b = some o → h'.get? b = some o := fun b o q => by
    by_cases hb : b = e
    · rw [hb, ge] at q; cases q
    · exact (gk b hb).symm.trans q
  exact J.laidN gh ge (by rw [upd_ne (Ne.symm M.dne)]; exact He) (exo_ok M.obj)
/-- nm(a), as a value -/
def tMkV (C : Addr) (f : Str) (ta : TA) : TE := fun σ H Q => ta σ H fun vs H1 => ∃ v, vs = [v] ∧ ∀ e d, H1 e = none → H1 d = none → d ≠ e → Q (.ref e) (upd (upd H1 d (exd d [(f, v)])) e (exo e C (some d)))
theorem pe_mkV {a : Expr} {ta : TA} {p pos : Pos} {k : Nat} (T : ETxt X.K X.mg nm qual C fI f) (hr : Room k X.A) (ha : PA X [a] ta) (hg : Gl X nm) (hdb : (nm == ("__debug__" : Str)) = false := by decide)
    (he : starEach (a :: []) X.env = (false, eval a X.env) :: starEach [] X.env := by rfl) (hpl : (backTo pos (starEach [] X.env)).any (·.1) = false := by rfl) :
    PE X (.Call (.Name nm p) [a] [] pos) (tMkV C f ta) := by
  refine ⟨fun pins s σ H Q I h => ?_⟩
  obtain ⟨B, B', newId, initId, bmN, bmB, FB, SF, TB, EC⟩ := T.ba
  refine wpAny_Call_Name_kw (ld_glob I hg T.gC ?_ hdb)
  refine PySem.W.callWith_K (h₀ := X.base) I.ok.mod.kin EC.kC (thn (ha.run pos pins s σ H _ I h) fun us s1 hh => ?_) he hpl
  obtain ⟨vs, H1, I1, r1, v, ev, q1⟩ := hh
  subst ev
  refine ⟨I1.kIn, ?_⟩
  obtain ⟨v', rfl, rv⟩ := vals1 r1
  show wpAny _ _ (call (.ref C) [v']) _ _ _
  refine wpAny_call (ex_made T I1.kIn I1.nolimit (by have := hr.dp; omega) fun h' tk' e d t1 M => ?_)
  obtain ⟨z1, z2, J⟩ := ex_inv (tk := tk') I1 rv M
  exact ⟨.ref e, _, J, rfl, q1 e d z1 z2 M.dne⟩
/-- nm(a), to be raised -/
def tMkE (C : Addr) (f : Str) (ta : TA) : L2.St → Hp → XK → Prop := fun σ H Q => ta σ H fun vs H1 => ∃ v, vs = [v] ∧ ∀ d, H1 d = none → Q (.ref C) (some d) (upd H1 d (.xd [(f, v)]))
theorem pmk_mkE {a : Expr} {ta : TA} {p pos : Pos} {k : Nat} (T : ETxt X.K X.mg nm qual C fI f) (hr : Room k X.A) (ha : PA X [a] ta) (hg : Gl X nm) (hdb : (nm == ("__debug__" : Str)) = false := by decide)
    (he : starEach (a :: []) X.env = (false, eval a X.env) :: starEach [] X.env := by rfl) (hpl : (backTo pos (starEach [] X.env)).any (·.1) = false := by rfl) :
    PMk X (.Call (.Name nm p) [a] [] pos) (tMkE C f ta) := by
  intro pins s σ H Q I h
  obtain ⟨B, B', newId, initId, bmN, bmB, FB, SF, TB, EC⟩ := T.ba
  refine wpAny_Call_Name_kw (ld_glob I hg T.gC ?_ hdb)
  refine PySem.W.callWith_K (h₀ := X.base) I.ok.mod.kin EC.kC (thn (ha.run pos pins s σ H _ I h) fun us s1 hh => ?_) he hpl
  obtain ⟨vs, H1, I1, r1, v, ev, q1⟩ := hh
  subst ev
  refine ⟨I1.kIn, ?_⟩
  obtain ⟨v', rfl, rv⟩ := vals1 r1
  show wpAny _ _ (call (.ref C) [v']) _ _ _
  have hlim := I1.nolimit
  obtain ⟨hp, g, dr, tk, os⟩ := s1
  refine wpAny_call (ex_made T I1.kIn hlim (by have := hr.dp; omega) fun h' tk' e d t1 M => ?_)
  show MkP X pins σ Q (.ref e) ⟨h', g, dr, tk', os⟩
  obtain ⟨G', g1, g2⟩ := restrict h' fun b => decide (b ≠ e)
  have gk : ∀ b, b ≠ e → G'.get? b = h'.get? b := fun b hb => g1 b (decide_eq_true hb)
  have ge : G'.get? e = none := g2 e (by simp)
  have old : ∀ b o, hp.get? b = some o → G'.get? b = some o := fun b o q => (gk b (Nat.ne_of_lt (Nat.lt_of_lt_of_le (Heap.lt_size q) M.new))).trans (M.keep b o q)
  have ob : ObjOk X.prog X.w (upd H1 d (.xd [(f, v)])) G' d (.xd [(f, v)]) := ⟨_, M.ns.at (fun o q => (gk d M.dne).trans q), fun g => relO_one rv f g⟩
  have J : Inv X pins σ (upd H1 d (.xd [(f, v)])) (⟨G', g, dr, tk', os⟩ : Shared) := I1.laid (t' := tk') old M.dbig ob
  refine ⟨e, _, _, (⟨G', g, dr, tk', os⟩ : Shared), _, .ref C, some d, rfl, J, fun b o q => ?_, ge, M.obj, ⟨rfl, rfl⟩, rfl, rfl, ?_, rfl, I1.bare, raises_own EC.exC EC.tyC, q1 d (I1.hok.fresh M.dbig)⟩
  · by_cases hb : b = e
    · have q' : G'.get? b = some o := q
      rw [hb, ge] at q'; cases q'
    · exact (gk b hb).symm.trans q
  · rw [upd_ne (Ne.symm M.dne)]
    exact I1.hok.fresh M.new
/-- e.f, e an error held as a value -/
def tXv (K : PySem.W.Frag) (f : Str) (te : TE) : TE := fun σ H Q => te σ H fun x H1 => ∃ (a d C fI : Addr) (bmB : List Value) (newId : String) (v : V), x = .ref a ∧ H1 a = some (exo a C (some d)) ∧ H1 d = some (exd d [(f, v)]) ∧ ExC K C fI f bmB newId ∧ Q v H1
theorem pe_xv {e : Expr} {te : TE} {pos : Pos} (he : PE X e te) (hb : attributeBase e f X.env (eval e X.env) = eval e X.env := by rfl) : PE X (.Attribute e f pos) (tXv X.K f te) := by
  refine ⟨fun pins s σ H Q I h => ?_⟩
  refine attr_of hb (thn (he.run pins s σ H _ I h) fun u s1 hh => ?_)
  obtain ⟨x, H1, I1, rx, a, d, C, fI, bmB, newId, v, ex, ea, ed, EC, q⟩ := hh
  subst ex
  obtain rfl : u = Value.ref a := rx
  obtain ⟨t1, ho⟩ := exo_at I1.hok ea
  obtain ⟨mA, hns, hr⟩ := exd_at I1.hok ed
  obtain ⟨od, hod, hl⟩ := lookIn_ns hns
  have l : List.lookup f [(f, v)] = some v := by simp [List.lookup]
  obtain ⟨u, hu, ru⟩ := RelO.some_of (v := v) (o := mA f) (by rw [← l]; exact hr f)
  have J : PySem.W.InstAt s1.heap a { cls := .ref C, dict := some d, data := .fields #[.ref t1, .none, .none, .none, .bool false, .none] } C (some od) := ⟨ho, rfl, rfl, hod⟩
  exact HandSPX.exc_get I1.kIn J EC.ga EC.gg EC.exC (PySem.W.findObj_own EC.hd EC.noN rfl (by rw [hl, hu])) (handed_of ru) ⟨v, H1, I1.tok _, ru, q⟩
end
end OwX

/-! Defs whose calls may ask for the text of containers: the context's guards are known to be none. -/
namespace OwX
open PySem PySem.Spec PyProof.Rows L2 L2H
/-- as FnOk, called where no guard stands -/
structure GFn (P : Program) (w : World) (K : PySem.W.Frag) (mg : Str → Option Value) (base : Heap) (CX : CXT) (k : Nat) (f : Addr) (fd : FuncData) (ps : List Str) (sp : Sp) : Prop where
  len : ∀ vs H Q E, sp vs H Q E → vs.length = ps.length
  run : ∀ (A : Around) (outer : List Env) (s : Shared) (H : Hp) (args : Args) (us : List Value) (vs : List V) (Q : VK) (E : XK), Room k A → A.guards = some [] → Env0 P w K mg base A outer s H → BindsTo s fd args (ps.zip us) → Vals vs us →
    sp vs H Q E → codeAny (model P w) A (.call (.ref f) args) (CR CX outer P w H s Q E) s
/-- as FnOk, called where the exception p is handled, which the promise may speak of -/
structure PFn (P : Program) (w : World) (K : PySem.W.Frag) (mg : Str → Option Value) (base : Heap) (CX : CXT) (k : Nat) (f : Addr) (fd : FuncData) (ps : List Str) (sp : Addr × Obj → Sp) : Prop where
  len : ∀ p vs H Q E, sp p vs H Q E → vs.length = ps.length
  run : ∀ (A : Around) (outer : List Env) (s : Shared) (H : Hp) (args : Args) (us : List Value) (vs : List V) (Q : VK) (E : XK) (p : Addr × Obj), RoomH k A → PinOk outer H s p → Env0 P w K mg base A outer s H → BindsTo s fd args (ps.zip us) →
    Vals vs us → sp p vs H Q E → codeAny (model P w) A (.call (.ref f) args) (CR CX outer P w H s Q E) s
section
variable {P : Program} {w : World} {K : PySem.W.Frag} {mg : Str → Option Value} {base : Heap} {CX : CXT} {k : Nat} {f : Addr} {fd : FuncData} {N ps : List Str} {sp : Sp}
theorem GFn.of (F : FnOk P w K mg base CX k f fd ps sp) : GFn P w K mg base CX k f fd ps sp := ⟨F.len, fun A outer s H args us vs Q E hr _ => F.run A outer s H args us vs Q E hr⟩
theorem GFn.mono {j : Nat} (F : GFn P w K mg base CX j f fd ps sp) (h : j ≤ k) : GFn P w K mg base CX k f fd ps sp := ⟨F.len, fun A outer s H args us vs Q E hr => F.run A outer s H args us vs Q E (hr.mono h)⟩
/-- the run of a def's body, whatever its context -/
theorem body_run {name qual : Str} {params : Arguments} {body : List Stmt} {scope : Scope} {dV kV doc pm cdv ct oc : Value} {an od : Option Addr} {osl : Array (Option Value)} (lk : K.lookup f = some ⟨oc, od, .func (PySem.W.fnOf name qual params body scope dV kV doc pm an cdv ct), osl⟩)
    (hcd : PySem.W.codeIn K cdv qual = true) (S : FnScope N ps scope) {A : Around} {outer : List Env} {s : Shared} {H : Hp} {args : Args} {us : List Value} {vs : List V} {Q : VK} {E : XK} (hd : A.depth < recursionLimit) (e0 : Env0 P w K mg base A outer s H)
    (hb : BindsTo s (PySem.W.fnOf name qual params body scope dV kV doc pm an cdv ct) args (ps.zip us)) (X : Cx) (xP : X.prog = P) (xw : X.w = w) (xA : X.A = A.deeper (envOfC qual scope s.heap.objs.size f cdv)) (xe : X.env = envOfC qual scope s.heap.objs.size f cdv)
    (xs : X.s_0 = s) (xH : X.H_0 = H) (xo : X.outer = outer) (xx : X.ex = [])
    (xX : X.xe = fun e s' => wpAny (model P w) (A.deeper (envOfC qual scope s.heap.objs.size f cdv)) (leaving (envOfC qual scope s.heap.objs.size f cdv) e) (fun _ s'' => CX outer H s E e s'') (fun e' s'' => CX outer H s E e' s'') s')
    (I : ∀ s1 : Shared, InCallC s s.heap.objs.size (bindL (envOfC qual scope s.heap.objs.size f cdv).kindOf (ps.zip us) fun _ => none) (cellsFrom (s.heap.objs.size + 1) scope.names []) (bindC (envOfC qual scope s.heap.objs.size f cdv).kindOf (ps.zip us) fun _ => none) s1 → Inv X [] (start N vs) H s1)
    {t : TS} (ht : PSs X body t) (hq : t { nx := fun _ H' => Q .non H', rt := Q } (start N vs) H) : codeAny (model P w) A (.call (.ref f) args) (CR CX outer P w H s Q E) s := by
  have KX : K.In s.heap := e0.mod.kin.keeps (fun b o e => (e0.bs b o e).1)
  have hkd : ∀ y ∈ ps.zip us, scope.names.lookup y.1 = some .local ∨ (scope.names.lookup y.1 = some .cell ∧ ((cellsFrom (s.heap.objs.size + 1) scope.names []).lookup y.1).isSome = true) := by
    rintro ⟨n, v⟩ hy
    exact (S.par n (List.of_mem_zip hy).1).elim Or.inl (fun q => Or.inr ⟨q, PySem.W.cellsFrom_some _ _ _ (.inl q)⟩)
  refine codeAny_call_function hd (KX _ _ lk) rfl S.co S.gen rfl (PySem.W.codeRec_of KX hcd) (hb _ _ _ _ (wpAny_newFunctionEnv_cells S.kind hkd fun env he s1 x => ?_))
  subst he
  refine ⟨(e0.mod.nolimit.keeps fun b o e => (e0.bs b o e).1).keeps x.toInCall.keep, codeAny_func ?_⟩
  have J := ht.run [] s1 (start N vs) H _ (I s1 x) hq
  rw [xP, xw, xA, xe, xX] at J
  refine wpAny_mono J (fun fl s' hs => ?_) (fun e s' hs => hs)
  have fin : ∀ {σ' : L2.St} {H' : Hp} {v : V} {u : Value}, Inv X [] σ' H' s' → RelV v u → Q v H' → CE outer P w H s Q u s' := fun {σ' H' v u} J rv q => by
    have z1 := J.os
    have z2 := J.base
    have z3 := J.hok
    unfold Cx.fs at z2
    rw [xs] at z1 z2
    rw [xo, xx, xH] at z2
    rw [xP, xw] at z3
    exact ⟨v, H', z1, J.bare, z2, z3, rv, q⟩
  cases fl with
  | ret u => obtain ⟨v, σ', H', J, rv, q⟩ := hs; exact fin J rv q
  | next => obtain ⟨σ', H', J, q⟩ := hs; exact fin (v := V.non) (u := Value.none) J rfl q
  | brk => obtain ⟨_, _, _, q⟩ := hs; exact False.elim q
  | cont => obtain ⟨_, _, _, q⟩ := hs; exact False.elim q
/-- a def by its body, called where no guard stands; it may raise -/
theorem gfn_of {x qual : Str} {st : Stmt} (F : Fun K x qual st f fd) (S : FnScope N ps (defScope st)) (len : ∀ vs H Q E, sp vs H Q E → vs.length = ps.length)
    (hbody : ∀ (cdv : Value) (A : Around) (outer : List Env) (s : Shared) (H : Hp) (vs : List V) (Q : VK) (E : XK), Room k (A.deeper (envOfC qual (defScope st) s.heap.objs.size f cdv)) → (A.deeper (envOfC qual (defScope st) s.heap.objs.size f cdv)).guards = some [] → sp vs H Q E →
      ∃ t, PSs (cxOf (L2.CX P w) P w K mg base N qual (defScope st) f cdv A outer s H E) (defBody st) t ∧ t { nx := fun _ H' => Q .non H', rt := Q } (start N vs) H) : GFn P w K mg base (L2.CX P w) (k + 1) f fd ps sp := by
  obtain ⟨oc, od, kV, doc, pm, an, cdv, ct, osl, rfl, lk, hcd⟩ := F.ex
  refine ⟨len, fun A outer s H args us vs Q E hr hg e0 hb r hsp => ?_⟩
  have hl := len _ _ _ _ hsp
  obtain ⟨t, ht, hq⟩ := hbody cdv A outer s H vs Q E (hr.deeper _) hg hsp
  exact body_run lk hcd S hr.depth e0 hb _ rfl rfl rfl rfl rfl rfl rfl rfl rfl (fun s1 x => inv_start S hr.hd e0 hl r x) ht hq
/-- a def by its body, called where p is handled -/
theorem pfn_of {x qual : Str} {st : Stmt} {sp : Addr × Obj → Sp} (F : Fun K x qual st f fd) (S : FnScope N ps (defScope st)) (len : ∀ p vs H Q E, sp p vs H Q E → vs.length = ps.length)
    (hbody : ∀ (cdv : Value) (A : Around) (outer : List Env) (s : Shared) (H : Hp) (vs : List V) (Q : VK) (E : XK) (p : Addr × Obj), RoomH k (A.deeper (envOfC qual (defScope st) s.heap.objs.size f cdv)) → sp p vs H Q E →
      ∃ t, PSs (cxH (L2.CX P w) P w K mg base N qual (defScope st) f cdv A outer s H E p) (defBody st) t ∧ t { nx := fun _ H' => Q .non H', rt := Q } (start N vs) H) : PFn P w K mg base (L2.CX P w) (k + 1) f fd ps sp := by
  obtain ⟨oc, od, kV, doc, pm, an, cdv, ct, osl, rfl, lk, hcd⟩ := F.ex
  refine ⟨len, fun A outer s H args us vs Q E p hr hp e0 hb r hsp => ?_⟩
  have hl := len _ _ _ _ _ hsp
  obtain ⟨t, ht, hq⟩ := hbody cdv A outer s H vs Q E p (hr.deeper _) hsp
  exact body_run lk hcd S hr.depth e0 hb _ rfl rfl rfl rfl rfl rfl rfl rfl rfl (fun s1 x => inv_startH S hp e0 hl r x) ht hq
end
end OwX

namespace OwX
open PySem PySem.Spec PyProof.Rows L2 L2H
/-! ### calls of such defs -/
theorem never_at {X : Cx} {σ : L2.St} : PassesAt (L2.CX X.prog X.w) X σ (fun _ _ _ => False) := fun _ _ _ _ _ _ c => by
  obtain ⟨_, _, _, _, _, _, _, _, _, _, _, _, z⟩ := c
  exact z.elim
section
variable {X : Cx} {k : Nat} {f : Addr} {fd : FuncData} {ps : List Str} {sp : Sp} {E : L2.St → XK} {x : Str} {p pos : Pos} {e : Expr} {es : List Expr} {t : TA}
theorem run_gfn {pins : List (Addr × Obj)} {σ : L2.St} {H : Hp} {s : Shared} {Q : VK} {us : List Value} {vs : List V} (F : GFn X.prog X.w X.K X.mg X.base (L2.CX X.prog X.w) k f fd ps sp) (hr : Room k X.A) (hg : X.A.guards = some []) (hb : Binds X.K fd ps [])
    (hx : PassesAt (L2.CX X.prog X.w) X σ (E σ)) (I : Inv X pins σ H s) (r : Vals vs us) (h : sp vs H Q (E σ)) : wpAny (model X.prog X.w) X.A (call (.ref f) us) (EP X pins σ Q) X.xe s := by
  have hl : us.length = ps.length := r.length.symm.trans (F.len _ _ _ _ h)
  have b := hb s us I.kIn (by rw [List.append_nil]; exact hl)
  rw [List.append_nil] at b
  refine wpAny_call (codeAny_mono (F.run X.A X.stack s H ⟨us, []⟩ us vs Q (E σ) hr hg I.env0 b r h) fun r s' z => ?_)
  rcases r with er | fl
  · exact hx pins H s er s' I z
  · cases fl <;> first | exact I.after z | exact False.elim z
theorem pe_callG (F : GFn X.prog X.w X.K X.mg X.base (L2.CX X.prog X.w) k f fd ps sp) (hr : Room k X.A) (hgd : X.A.guards = some []) (hg : Gl X x) (hm : X.mg x = some (.ref f)) (hk : PySem.W.keepIn X.K (.ref f) = true) (hb : Binds X.K fd ps [])
    (hx : ∀ σ, PassesAt (L2.CX X.prog X.w) X σ (E σ)) (ha : PA X (e :: es) t) (hdb : (x == ("__debug__" : Str)) = false := by decide) (he : starEach (e :: es) X.env = (false, eval e X.env) :: starEach es X.env := by rfl)
    (hpl : (backTo pos (starEach es X.env)).any (·.1) = false := by rfl) : PE X (.Call (.Name x p) (e :: es) [] pos) (tCallS sp E t) := by
  refine ⟨fun pins s σ H Q I h => wpAny_Call_Name_kw (ld_glob I hg hm ?_ hdb)⟩
  exact PySem.W.callWith_K (h₀ := X.base) I.ok.mod.kin hk (thn (ha.run pos pins s σ H _ I h) fun us s1 ⟨vs, H1, I1, r, q⟩ => ⟨I1.kIn, run_gfn F hr hgd hb (hx σ) I1 r q⟩) he hpl
theorem pe_callG0 (F : GFn X.prog X.w X.K X.mg X.base (L2.CX X.prog X.w) k f fd ps sp) (hr : Room k X.A) (hgd : X.A.guards = some []) (hg : Gl X x) (hm : X.mg x = some (.ref f)) (hk : PySem.W.keepIn X.K (.ref f) = true) (hb : Binds X.K fd ps [])
    (hx : ∀ σ, PassesAt (L2.CX X.prog X.w) X σ (E σ)) (hdb : (x == ("__debug__" : Str)) = false := by decide) : PE X (.Call (.Name x p) [] [] pos) (tCallS sp E tNil) := by
  refine ⟨fun pins s σ H Q I h => wpAny_Call_Name_kw (ld_glob I hg hm ?_ hdb)⟩
  exact PySem.W.callWith_K0 I.kIn hk (run_gfn (us := []) F hr hgd hb (hx σ) I .nil h)
/-- in an except suite: a call of a def that may speak of the handled error -/
theorem pe_callP {spP : Addr × Obj → Sp} {q : Addr × Obj} (F : PFn X.prog X.w X.K X.mg X.base (L2.CX X.prog X.w) k f fd ps spP) (hr : RoomH k X.A) (hq : q ∈ X.pn) (hg : Gl X x) (hm : X.mg x = some (.ref f)) (hk : PySem.W.keepIn X.K (.ref f) = true)
    (hb : Binds X.K fd ps []) (hx : ∀ σ, PassesAt (L2.CX X.prog X.w) X σ (E σ)) (ha : PA X (e :: es) t) (hdb : (x == ("__debug__" : Str)) = false := by decide) (he : starEach (e :: es) X.env = (false, eval e X.env) :: starEach es X.env := by rfl)
    (hpl : (backTo pos (starEach es X.env)).any (·.1) = false := by rfl) : PE X (.Call (.Name x p) (e :: es) [] pos) (tCallS (spP q) E t) := by
  refine ⟨fun pins s σ H Q I h => wpAny_Call_Name_kw (ld_glob I hg hm ?_ hdb)⟩
  refine PySem.W.callWith_K (h₀ := X.base) I.ok.mod.kin hk (thn (ha.run pos pins s σ H _ I h) fun us s1 ⟨vs, H1, I1, r, z⟩ => ⟨I1.kIn, ?_⟩) he hpl
  have hl : us.length = ps.length := r.length.symm.trans (F.len _ _ _ _ _ z)
  have b := hb s1 us I1.kIn (by rw [List.append_nil]; exact hl)
  rw [List.append_nil] at b
  have P1 := I1.pin q (List.mem_append_left _ hq)
  have hp : PinOk X.stack H1 s1 q := ⟨P1.1, P1.2.1, fun hm' => (List.mem_cons.mp (I1.stkSub q.1 hm')).elim P1.2.2.1 P1.2.2.2.1, P1.2.2.2.2⟩
  refine wpAny_call (codeAny_mono (F.run X.A X.stack s1 H1 ⟨us, []⟩ us vs Q (E σ) q hr hp I1.env0 b r z) fun r s' z => ?_)
  rcases r with er | fl
  · exact hx σ pins H1 s1 er s' I1 z
  · cases fl <;> first | exact I1.after z | exact False.elim z
end
/-! ### isinstance of an error, held as a value or handled -/
/-- what is asked of the class of an error, whichever it is -/
structure ErrC (K : PySem.W.Frag) (D : Addr) : Prop where
  cs : (PySem.W.clsIn K D).isSome = true
  ga : PySem.W.findIn K (.ref D) "__getattribute__" = some (some (.builtin "BaseException.__getattribute__"))
  gg : PySem.W.findIn K (.ref D) "__getattr__" = some none
  exC : PySem.W.subIn K (.ref D) (.type "BaseException") = some true
  cc : PySem.W.findIn K (.ref D) "__class__" = some (some (.builtin "object.__class__"))
  cg : PySem.W.specialIn K (.builtin "object.__class__") "__get__" = some (some (.builtin "getset_descriptor.__get__"))
  ct : PySem.W.takesIn K (.builtin "object.__class__") = some true
  mo : PySem.W.mroIn K D (.type "object") = some true
def errChk (K : PySem.W.Frag) (D : Addr) : Bool :=
  (PySem.W.clsIn K D).isSome && (decide (PySem.W.findIn K (.ref D) "__getattribute__" = some (some (.builtin "BaseException.__getattribute__"))) && (decide (PySem.W.findIn K (.ref D) "__getattr__" = some none) && (decide (PySem.W.subIn K (.ref D) (.type "BaseException") = some true) &&
  (decide (PySem.W.findIn K (.ref D) "__class__" = some (some (.builtin "object.__class__"))) && (decide (PySem.W.specialIn K (.builtin "object.__class__") "__get__" = some (some (.builtin "getset_descriptor.__get__"))) && (decide (PySem.W.takesIn K (.builtin "object.__class__") = some true) &&
  decide (PySem.W.mroIn K D (.type "object") = some true)))))))
theorem errChk_ok {K : PySem.W.Frag} {D : Addr} (h : errChk K D = true) : ErrC K D := by
  unfold errChk at h
  simp only [Bool.and_eq_true, decide_eq_true_eq] at h
  obtain ⟨h1, h2, h3, h4, h5, h6, h7, h8⟩ := h
  exact ⟨h1, h2, h3, h4, h5, h6, h7, h8⟩
/-- an error of the class D stands at a -/
def IsErr (H : Hp) (a D : Addr) : Prop := H a = some (ExO (.ref D) a) ∨ ∃ (d : Addr) (fs : List (Str × V)), H a = some (exo a D (some d)) ∧ H d = some (exd d fs)
def rIsX (K : PySem.W.Frag) : List V → Hp → VK → Prop := fun xs H Q => ∃ (a D : Addr) (c : V) (cv : Value) (b : Bool), xs = [.ref a, c] ∧ IsErr H a D ∧ ClsV c cv ∧ ErrC K D ∧ PySem.W.kitOne K (.ref D) cv = some b ∧ Q (.bl b) H
theorem call_isX {X : Cx} : CallR X (.builtin "isinstance") (rIsX X.K) := by
  intro pins s σ H xs us Q I r h
  obtain ⟨a, D, c, cv, b, rfl, he, hcv, T, e, q⟩ := h
  obtain ⟨u1, u2, rfl, r1, r2⟩ := vals2 r
  cases (show u1 = Value.ref a from r1)
  have e2 := hcv.eq r2
  subst e2
  have fin : ∀ tk, EP X pins σ Q (.bool b) { s with toks := tk } := fun tk => ⟨.bl b, H, I.kept (t' := tk) fun _ _ z => z, rfl, q⟩
  rcases he with he | ⟨d, fs, he, hd⟩
  · obtain ⟨⟨oe, vs, h1, hz, h2, _⟩, _, _⟩ := I.hok a _ he
    obtain ⟨oc, od, oda, osl⟩ := oe
    obtain ⟨z1, z2⟩ := hz
    dsimp only at z1 z2 h2
    subst z1 z2 h2
    exact PySem.W.kia_one (PySem.W.kitx_exc (od := none) T.cs T.ga T.gg T.exC T.cc T.cg T.ct T.mo) I.kIn ⟨h1, rfl, rfl, trivial⟩ e (fun z => nomatch z) fin
  · obtain ⟨t1, h1⟩ := exo_at I.hok he
    obtain ⟨mA, hns, _⟩ := exd_at I.hok hd
    obtain ⟨od, ho, _⟩ := lookIn_ns hns
    exact PySem.W.kia_one (PySem.W.kitx_exc (od := some od) T.cs T.ga T.gg T.exC T.cc T.cg T.ct T.mo) I.kIn ⟨h1, rfl, rfl, ho⟩ e (fun z => nomatch z) fin
/-- the error that is pinned -/
def rIsP (K : PySem.W.Frag) (p : Addr × Obj) : List V → Hp → VK → Prop := fun xs H Q => ∃ (D : Addr) (c : V) (cv : Value) (b : Bool), xs = [.ref p.1, c] ∧ (p.2.cls = .ref D ∧ p.2.dict = none ∧ ∃ vs, p.2.data = .fields vs) ∧ ClsV c cv ∧ ErrC K D ∧ PySem.W.kitOne K (.ref D) cv = some b ∧ Q (.bl b) H
theorem call_isP {X : Cx} {p : Addr × Obj} (hp : p ∈ X.pn) : CallR X (.builtin "isinstance") (rIsP X.K p) := by
  intro pins s σ H xs us Q I r h
  obtain ⟨D, c, cv, b, rfl, ⟨z1, z2, vs, z3⟩, hcv, T, e, q⟩ := h
  obtain ⟨u1, u2, rfl, r1, r2⟩ := vals2 r
  cases (show u1 = Value.ref p.1 from r1)
  have e2 := hcv.eq r2
  subst e2
  obtain ⟨h1, _⟩ := I.pin p (List.mem_append_left _ hp)
  obtain ⟨a, ⟨oc, od, oda, osl⟩⟩ := p
  dsimp only at z1 z2 z3 h1
  subst z1 z2 z3
  exact PySem.W.kia_one (PySem.W.kitx_exc (od := none) T.cs T.ga T.gg T.exC T.cc T.cg T.ct T.mo) I.kIn ⟨h1, rfl, rfl, trivial⟩ e (fun z => nomatch z) (fun tk => ⟨.bl b, H, I.kept (t' := tk) fun _ _ z => z, rfl, q⟩)
/-! ### text * int -/
def rMulS : R2 := fun x y H Q => ∃ (a : Str) (n : Int), x = .str a ∧ y = .int n ∧ MulOk a n ∧ Q (.str (Txt.mul a n)) H
theorem op_mulS {X : Cx} : OpR X (binaryOp .Mult) rMulS := by
  intro pins s σ H x y v u Q I rx ry h
  obtain ⟨a, n, rfl, rfl, hok, q⟩ := h
  obtain ⟨t, rfl⟩ := rx
  obtain ⟨t', rfl⟩ := ry
  exact SB.mul hok fun t' k => ⟨.str _, H, I.kept (t' := k) fun _ _ z => z, ⟨_, rfl⟩, q⟩
end OwX

namespace OwX
open PySem PySem.Spec PyProof.Rows L2 L2H
/-! ### repr of data: None, bools, ints, texts, tuples, lists, dicts of data -/
mutual
inductive Dq (K : PySem.W.Frag) (H : Hp) : V → PyData → Prop
  | non : Dq K H .non .none
  | bl (b : Bool) : Dq K H (.bl b) (.bool b)
  | int (i : Int) : Dq K H (.int i) (.int i)
  | str (x : Str) : Dq K H (.str x) (.str x)
  | lst {a : Addr} {xs : List V} {ds : List PyData} : SqL K H a xs → a ≠ sysModules → DqAll K H xs ds → Dq K H (.ref a) (.list ds)
  | tup {a : Addr} {xs : List V} {ds : List PyData} : SqT K H a xs → DqAll K H xs ds → Dq K H (.ref a) (.tuple ds)
  | dic {a : Addr} {kvs : List (Key × V)} {kds : List (PyData × PyData)} : H a = some (.dK kvs) → DqAll K H (kvs.map fun p => kV p.1) (kds.map (·.1)) → DqAll K H (kvs.map (·.2)) (kds.map (·.2)) → Dq K H (.ref a) (.dict kds)
inductive DqAll (K : PySem.W.Frag) (H : Hp) : List V → List PyData → Prop
  | nil : DqAll K H [] []
  | cons {v : V} {vs : List V} {d : PyData} {ds : List PyData} : Dq K H v d → DqAll K H vs ds → DqAll K H (v :: vs) (d :: ds)
end
theorem rel_key {k : Key} {v : Value} (h : keyIs k v = true) : RelV (kV k) v := by
  rcases keyIs_shape h with ⟨i, t, rfl, rfl⟩ | ⟨x, t, rfl, rfl⟩
  · exact ⟨t, rfl⟩
  · exact ⟨t, rfl⟩
theorem pairs_vals {P : Program} {w : World} : ∀ {es : List DictEntry} {vs : List (Key × Value)} {kvs : List (Key × V)}, Pairs (mixKind P w) es vs → KV kvs vs → Vals (kvs.map fun p => kV p.1) (es.map (·.key)) ∧ Vals (kvs.map (·.2)) (es.map (·.val))
  | _, _, _, .nil, r => by cases r; exact ⟨.nil, .nil⟩
  | _, _, _, .cons h1 h2 h3, r => by
    cases r with
    | @cons p q _ _ r1 r2 =>
      obtain ⟨z1, z2⟩ := pairs_vals h3 r2
      refine ⟨.cons ?_ z1, .cons ?_ z2⟩
      · show RelV (kV p.1) _
        rw [r1.1]
        exact rel_key h1
      · show RelV p.2 (DictEntry.val _)
        rw [h2]
        exact r1.2
/-- a dict's entries, as the object bears them -/
theorem dict_entries {P : Program} {w : World} {h : Heap} {a : Addr} {kvs : List (Key × V)} {vs : List (Key × Value)} (kv : KV kvs vs) (m : h.DictOf (mixKind P w) a vs) :
    ∃ (o : Obj) (es : Array DictEntry) (n : Nat), h.get? a = some o ∧ o.cls = .type "dict" ∧ o.data = .dict es n ∧ Vals (kvs.map fun p => kV p.1) (es.toList.map (·.key)) ∧ Vals (kvs.map (·.2)) (es.toList.map (·.val)) := by
  obtain ⟨o, es, ep, e, ex, d, _, r, _⟩ := m
  obtain ⟨z1, z2⟩ := pairs_vals r kv
  exact ⟨o, es, ep, e, ex.1, d, z1, z2⟩
section
variable {X : Cx} {pins : List (Addr × Obj)} {σ : L2.St} {H : Hp} {s : Shared}
mutual
theorem Dq.reads (I : Inv X pins σ H s) : ∀ {v : V} {d : PyData} {u : Value}, Dq X.K H v d → RelV v u → ∃ as, Reads s.heap u d as ∧ sysModules ∉ as
  | _, _, _, .non, r => by cases r; exact ⟨_, Reads.none, by simp⟩
  | _, _, _, .bl b, r => by cases r; exact ⟨_, Reads.bool b, by simp⟩
  | _, _, _, .int i, r => by obtain ⟨t, rfl⟩ := r; exact ⟨_, Reads.int i t, by simp⟩
  | _, _, _, .str x, r => by obtain ⟨t, rfl⟩ := r; exact ⟨_, Reads.str x t, by simp⟩
  | _, _, _, .lst hs hn ha, r => by
    cases r
    obtain ⟨its, rv, ⟨o, n, ho, hc, _, hd⟩, _⟩ := I.list hs
    obtain ⟨as, hr, hz⟩ := DqAll.reads I ha rv
    exact ⟨_, Reads.list ho hc hd hr, by simp only [List.mem_cons, not_or]; exact ⟨fun e => hn e.symm, hz⟩⟩
  | _, _, _, .tup hs ha, r => by
    cases r
    obtain ⟨its, rv, ⟨o, ho, hc, n, hd⟩, _⟩ := I.tuple hs
    obtain ⟨as, hr, hz⟩ := DqAll.reads I ha rv
    exact ⟨_, Reads.tuple ho hc hd hr, hz⟩
  | _, _, _, .dic hs h1 h2, r => by
    cases r
    obtain ⟨_, hS, vs, kv, m⟩ := (show ObjOk X.prog X.w H s.heap _ (.dK _) from I.hok _ _ hs)
    obtain ⟨o, es, n, e1, e2, e3, r1, r2⟩ := dict_entries kv m
    obtain ⟨as, q1, z1⟩ := DqAll.reads I h1 r1
    obtain ⟨bs, q2, z2⟩ := DqAll.reads I h2 r2
    refine ⟨_, Reads.dict e1 e2 e3 q1 q2, ?_⟩
    simp only [List.cons_append, List.mem_cons, List.mem_append, not_or]
    exact ⟨fun e => by rw [← e] at hS; simp at hS, z1, z2⟩
theorem DqAll.reads (I : Inv X pins σ H s) : ∀ {vs : List V} {ds : List PyData} {us : List Value}, DqAll X.K H vs ds → Vals vs us → ∃ as, ReadsAll s.heap us ds as ∧ sysModules ∉ as
  | _, _, _, .nil, r => by cases r; exact ⟨_, ReadsAll.nil, by simp⟩
  | _, _, _, .cons h1 h2, r => by
    cases r with
    | cons r1 r2 =>
      obtain ⟨as, q1, z1⟩ := Dq.reads I h1 r1
      obtain ⟨bs, q2, z2⟩ := DqAll.reads I h2 r2
      exact ⟨_, ReadsAll.cons q1 q2, by simp only [List.mem_append, not_or]; exact ⟨z1, z2⟩⟩
end
end
def rRepr (K : PySem.W.Frag) : List V → Hp → VK → Prop := fun xs H Q => ∃ (v : V) (d : PyData), xs = [v] ∧ Dq K H v d ∧ d.showable = true ∧ d.depth ≤ 16 ∧ d.shown.length ≤ sizeLine ∧ Q (.str d.shown) H
theorem call_reprD {X : Cx} (hg : X.A.guards = some []) (hu : X.A.units + 40 < cLine) : CallR X (.builtin "repr") (rRepr X.K) := by
  intro pins s σ H xs us Q I r h
  obtain ⟨v, d, rfl, hd, hs, hdp, hz, q⟩ := h
  obtain ⟨u, rfl, ru⟩ := vals1 r
  obtain ⟨as, hr, hn⟩ := Dq.reads I hd ru
  have fin : ∀ (t : Tok) (x : Str), x = d.shown → ∀ s' : Shared, (∃ h' tk, (∀ b o, s.heap.get? b = some o → h'.get? b = some o) ∧ s' = { s with heap := h', toks := tk }) → EP X pins σ Q (.str x t) s' := fun t x e s' ⟨h', tk, k, e2⟩ => by
    subst e e2
    exact ⟨.str d.shown, H, I.kept (t' := tk) k, ⟨t, rfl⟩, q⟩
  cases hd with
  | non => cases ru; exact P.repr_of_none (fin _ _ (by simp only [PyData.shown]) _ ⟨_, _, fun _ _ e => e, rfl⟩)
  | bl b => cases ru; exact P.repr_of_bool (fin _ _ (by cases b <;> simp only [PyData.shown] <;> rfl) _ ⟨_, _, fun _ _ e => e, rfl⟩)
  | int i =>
    obtain ⟨t, rfl⟩ := ru
    exact P.repr_of_int (by simpa [PyData.showable] using hs) (fin _ _ (by simp only [PyData.shown]) _ ⟨_, _, fun _ _ e => e, rfl⟩)
  | str x =>
    obtain ⟨t, rfl⟩ := ru
    exact P.repr_of_str (fin _ _ (by simp only [PyData.shown]) _ ⟨_, _, fun _ _ e => e, rfl⟩) (by simpa only [PyData.shown] using hz)
  | lst _ _ _ =>
    cases ru
    exact repr_of_reads' hr hs (fun _ => hn) hg (by omega) (fun _ _ e => e) (fun h' u tk hk => fin u _ rfl _ ⟨h', tk, hk, rfl⟩) hz
  | tup _ _ =>
    cases ru
    exact repr_of_reads' hr hs (fun _ => hn) hg (by omega) (fun _ _ e => e) (fun h' u tk hk => fin u _ rfl _ ⟨h', tk, hk, rfl⟩) hz
  | dic _ _ _ =>
    cases ru
    exact repr_of_reads' hr hs (fun _ => hn) hg (by omega) (fun _ _ e => e) (fun h' u tk hk => fin u _ rfl _ ⟨h', tk, hk, rfl⟩) hz
/-! ### new lists, known to be others than the modules' dict -/
theorem past_mods {X : Cx} {pins : List (Addr × Obj)} {σ : L2.St} {H : Hp} {s : Shared} (I : Inv X pins σ H s) {p : Addr} (h : s.heap.objs.size ≤ p) : p ≠ sysModules := by
  have h1 : mainGlobals < X.base.objs.size := I.mod.glob.lt
  have h2 := I.ok.bsz
  have h3 := I.sz
  have h1' : (3 : Nat) < X.base.objs.size := h1
  intro e
  have e' : @Eq Nat p 1 := e
  omega
def tLstN (t : TA) : TE := fun σ H Q => t σ H fun xs H1 => xs.length ≤ sizeLine ∧ ∀ p, H1 p = none → p ≠ sysModules → Q (.ref p) (upd H1 p (.lst xs))
theorem pe_lstN {X : Cx} {es : List Expr} {t : TA} {pos : Pos} (h : PA X es t) : PE X (.List es pos) (tLstN t) := by
  refine ⟨fun pins s σ H Q I hq => wpAny_List_spliced (thn (h.run pos pins s σ H _ I hq) fun us s1 ⟨xs, H1, I1, r, z, q⟩ => ⟨by rw [← r.length]; exact z, ?_⟩)⟩
  have hf : H1 s1.heap.objs.size = none := I1.hok.fresh (Nat.le_refl _)
  exact ⟨.ref s1.heap.objs.size, upd H1 s1.heap.objs.size (.lst xs), I1.laid (t' := s1.toks) (fun b u e => Heap.get?_push_of_some _ e) (Nat.le_refl _) ⟨z, us, 0, r, Heap.get?_push_size _ rfl⟩, rfl, q _ hf (past_mods I1 (Nat.le_refl _))⟩
def rCatN : R2 := fun x y H Q => ∃ l b xs zs, x = .ref l ∧ y = .ref b ∧ H l = some (.lst xs) ∧ H b = some (.lst zs) ∧ xs.length + zs.length ≤ sizeLine ∧ ∀ p, H p = none → p ≠ sysModules → Q (.ref p) (upd H p (.lst (xs ++ zs)))
theorem op_catN {X : Cx} : OpR X (binaryOp .Add) rCatN := by
  intro pins s σ H x y v u Q I rx ry h
  obtain ⟨l, b, xs, zs, rfl, rfl, hl, hb, hz, q⟩ := h
  cases rx
  cases ry
  obtain ⟨_, i1, n1, r1, _, e1⟩ := I.lstM hl
  obtain ⟨_, i2, n2, r2, _, e2⟩ := I.lstM hb
  have ea : i1.toArray ++ i2.toArray = (i1 ++ i2).toArray := by simp
  refine PySem.P.add_list e1 e2 ?_ (by (rw [List.size_toArray, List.size_toArray]; omega))
  rw [ea]
  exact ⟨.ref _, _, I.lnew (t' := s.toks) (r1.append r2) (by (rw [List.length_append]; omega)), rfl, q _ I.fresh (past_mods I (Nat.le_refl _))⟩
end OwX

/-! try with several clauses, some of them with a name -/
namespace OwX
open PySem PySem.Spec PyProof.Rows L2
/-- a clause's class, its name's slot, its suite -/
abbrev Cl3 := Value × Option Nat × (Addr → Value → Option Addr → TS)
def atSlot (i : Option Nat) (D : Ends) : Ends := match i with
  | none => D
  | some i => { nx := fun σ' H' => D.nx (σ'.set i none) H', rt := D.rt, bk := fun σ' H' => D.bk (σ'.set i none) H', ct := fun σ' H' => D.ct (σ'.set i none) H' }
def slotted (i : Option Nat) (σ : L2.St) (a : Addr) : L2.St := match i with
  | none => σ
  | some i => σ.set i (some (.ref a))
def wMix (K : PySem.W.Frag) (Wout : WX) (D : Ends) : List Cl3 → WX
  | [] => Wout
  | (c, i, ts) :: r => fun cls d σ H => ∃ b, PySem.W.exmOne K cls c = some b ∧ (b = true → ∀ a, H a = none → ts a cls d (atSlot i D) (slotted i σ a) H) ∧ (b = false → wMix K Wout D r cls d σ H)
inductive Clauses (X : Cx) : List ExceptHandler → List Cl3 → Prop
  | nil : Clauses X [] []
  | plain {x : Str} {c : Value} {ts : Addr → Value → Option Addr → TS} {b₀ : Stmt} {suite : List Stmt} {np pos' : Pos} {hds : List ExceptHandler} {l : List Cl3} (hc : Names X x c)
      (hsu : ∀ (a : Addr) (oe : Obj) (cls : Value) (d : Option Addr) (pn : List (Addr × Obj)), Zc cls d oe → (∃ vs, oe.data = .fields vs) → PSs (X.suite a ((a, oe) :: pn)) (b₀ :: suite) (ts a cls d)) (r : Clauses X hds l) :
      Clauses X (.ExceptHandler (some (.Name x np)) none (b₀ :: suite) pos' :: hds) ((c, none, ts) :: l)
  | named {x n : Str} {i : Nat} {c : Value} {ts : Addr → Value → Option Addr → TS} {b₀ : Stmt} {suite : List Stmt} {np pos' : Pos} {hds : List ExceptHandler} {l : List Cl3} (hN : X.N.Nodup) (hi : X.N[i]? = some n) (hln : X.env.kindOf n = some .local) (hc : Names X x c)
      (hsu : ∀ (a : Addr) (oe : Obj) (cls : Value) (d : Option Addr) (pn : List (Addr × Obj)), Zc cls d oe → (∃ vs, oe.data = .fields vs) → PSs (X.suite a ((a, oe) :: pn)) (b₀ :: suite) (ts a cls d)) (r : Clauses X hds l) :
      Clauses X (.ExceptHandler (some (.Name x np)) (some n) (b₀ :: suite) pos' :: hds) ((c, some i, ts) :: l)
section
variable {X : Cx} {body : List Stmt} {h₀ : ExceptHandler} {hds : List ExceptHandler} {l : List Cl3} {pos : Pos} {tb : WX → TS} {Wout : WX}
theorem ps_try_mix (hs : X.stack = X.env :: X.outer) (hf : X.env.frame = some X.env.locals) (tk : Takes X Wout)
    (hb : ∀ (W : WX) (pn : List (Addr × Obj)) (xe : Value → Shared → Prop), Takes (X.tr pn xe) W → PassesOwn (model X.prog X.w) X.A X.env xe → PSs (X.tr pn xe) body (tb W)) (hh : Clauses X (h₀ :: hds) l) :
    PS X (.Try body (h₀ :: hds) [] [] pos) (fun D σ H => tb (wMix X.K Wout D l) D σ H) := by
  refine ⟨fun pins s σ H D I h => wpAny_Try_except ?_⟩
  have ok := I.ok
  have hfr : X.A.frames = some (X.env :: X.outer) := ok.frames.trans (by rw [hs])
  refine wpAny_mono ((hb (wMix X.K Wout D l) (X.pn ++ pins) (fun e s₁ => wpAny (model X.prog X.w) X.A (noteFrame e X.env) (fun _ s₂ => wpAny (model X.prog X.w) X.A (setFlight e none) (fun _ s₃ => wpAny (model X.prog X.w) X.A (handleBy e X.env (h₀ :: hds)) (SP X pins D) X.xe s₃) X.xe s₂) X.xe s₁)
    (fun u s' xx => ?_) PassesOwn.looking).run [] s σ H D (I.toTry _) h) (fun f s1 hsp => ?_) (fun _ _ he => he)
  · obtain ⟨a, B, sI, pins', σ', H', cls, d, rfl, J', nb, up, sky, na, os, ag, w⟩ := xx
    have J : Inv X pins σ' H' sI := J'.ofTry ok
    have sk : Sky B (X.env :: X.outer) a (Zc cls d) X.env.locals s'.heap := hs ▸ sky
    show wpAny (model X.prog X.w) X.A (noteFrame (.ref a) X.env) _ _ _
    refine Sky.land Zc.steady hfr hf sk fun h3 fl3 up3 => ?_
    have J3 : Inv X pins σ' H' { s' with heap := h3 } := J.landed nb fl3.1 (up.trans up3) os ag
    obtain ⟨oe3, vs3, he3, hz3, hd3⟩ := fl3.there
    have nfr : a ∉ frs (X.env :: X.outer) := fun hm => by
      obtain ⟨_, o', e', hnf⟩ := fl3.2.2.1.mem hm
      exact hnf _ (by rw [he3] at e'; cases e'; exact hd3)
    have nL : a ≠ X.env.locals := fun z => nfr (List.mem_filterMap.mpr ⟨X.env, List.mem_cons_self, hf.trans (congrArg some z.symm)⟩)
    have nF : a ∉ X.fs := fun hm => (List.mem_filterMap.mp hm).elim fun e q => nfr (List.mem_filterMap.mpr ⟨e, List.mem_cons_of_mem _ q.1, q.2⟩)
    have S3 := J3.suite he3 hd3 na nL nF
    have test : ∀ {x : Str} {c : Value} {np : Pos} {Q : Value → Shared → Prop} {E : Value → Shared → Prop}, Names X x c → Q c { s' with heap := h3 } → wpAny (model X.prog X.w) (X.A.mark (some (.ref a))) (eval (.Name x np) X.env) Q E { s' with heap := h3 } := fun hc q => by
      obtain ⟨z1, z2, z3 | ⟨z3, z4, z5⟩⟩ := hc
      · exact ld_glob (X := X.suite a ((a, oe3) :: (X.pn ++ pins))) S3 z1 z3 q z2
      · exact ld_blt (X := X.suite a ((a, oe3) :: (X.pn ++ pins))) S3 z1 z3 z4 q z5 z2
    have go : ∀ {hs' : List ExceptHandler} {l' : List Cl3}, Clauses X hs' l' → wMix X.K Wout D l' cls d σ' H' → wpAny (model X.prog X.w) X.A (handleBy (.ref a) X.env hs') (SP X pins D) X.xe { s' with heap := h3 } := by
      intro hs' l' hk
      induction hk with
      | nil =>
        intro w
        obtain ⟨_, _, _, oe, vs, T, oT, ts', he, hz, hd, h1, hr⟩ := id fl3
        refine wpAny_handleBy_nil ?_
        unfold PySem.passOn
        refine wpAny_bind (wpAny_field he hd h1 ?_)
        rw [if_neg (by simp)]
        have fin : wpAny (model X.prog X.w) X.A (setFlight (.ref a) X.env.frame) (fun _ s4 => wpAny (model X.prog X.w) X.A (throw (.ref a) : Sem Flow) (SP X pins D) X.xe s4) X.xe { s' with heap := h3 } := by
          rw [hf]
          exact HandSPX.setFlight_upZ fl3 fun h4 hh4 up4 => wpAny_throw (tk _ _ ⟨a, B, sI, pins, σ', H', cls, d, rfl, J, nb, (up.trans up3).trans up4, .inr (.inr (by rw [hs]; exact hh4)), na, os, ag, w⟩)
        first | exact wpAny_bind (wpAny_pure (wpAny_bind fin)) | exact wpAny_bind fin
      | @plain x c ts b₀ suite np pos' hds2 l2 hc hsu r ih =>
        rintro ⟨b, hb1, hy, hn⟩
        refine wpAny_handleBy_cons (codeAny_handlers_test (test hc ?_)) (by intro q; cases q)
        refine (PySem.W.exm_one (M := model X.prog X.w) J3.kIn (fun _ _ _ _ k q => wpAny_typeOf_ref (k _ _ he3) (by rw [hz3.1]; exact q)) hb1).here ?_
        cases b with
        | false => exact ih (hn rfl)
        | true =>
          refine codeAny_handlers_suite (HandSPX.lands_againZ fl3 fun h4 fl4 up4 => ?_)
          have J4 : Inv X pins σ' H' { s' with heap := h4 } := J.landed nb fl4.1 ((up.trans up3).trans up4) os ag
          obtain ⟨oe4, vs4, he4, hz4, hd4⟩ := fl4.there
          refine wpAny_mono ((hsu a oe4 cls d (X.pn ++ pins) hz4 ⟨_, hd4⟩).run [] _ _ H' _ (J4.suite he4 hd4 na nL nF) (hy rfl a na)) (fun f s6 hsp => ?_) (fun _ _ z => False.elim z)
          cases f with
          | ret u => obtain ⟨_, _, _, S6, r6, q6⟩ := hsp; exact ⟨_, _, _, S6.unsuite ok, r6, q6⟩
          | _ => obtain ⟨_, _, S6, q6⟩ := hsp; exact ⟨_, _, S6.unsuite ok, q6⟩
      | @named x n i c ts b₀ suite np pos' hds2 l2 hN hi hln hc hsu r ih =>
        rintro ⟨b, hb1, hy, hn⟩
        refine wpAny_handleBy_cons (codeAny_handlers_test (test hc ?_)) (by intro q; cases q)
        refine (PySem.W.exm_one (M := model X.prog X.w) J3.kIn (fun _ _ _ _ k q => wpAny_typeOf_ref (k _ _ he3) (by rw [hz3.1]; exact q)) hb1).here ?_
        cases b with
        | false => exact ih (hn rfl)
        | true =>
          refine codeAny_handlers_suite_as (HandSPX.lands_againZ fl3 fun h4 fl4 up4 => ?_)
          have J4 : Inv X pins σ' H' { s' with heap := h4 } := J.landed nb fl4.1 ((up.trans up3).trans up4) os ag
          obtain ⟨oe4, vs4, he4, hz4, hd4⟩ := fl4.there
          refine store_ok (X := X.suite a ((a, oe4) :: (X.pn ++ pins))) (v := .ref a) (J4.suite he4 hd4 na nL nF) hN hi (Or.inl hln : Loc X.env.scope n) rfl (fun s5 S5 => ?_) (.inr hln)
          refine wpAny_mono ((hsu a oe4 cls d (X.pn ++ pins) hz4 ⟨_, hd4⟩).run [] s5 _ H' _ S5 (hy rfl a na)) (fun f s6 hsp => ?_) (fun _ _ z => False.elim z)
          have gone : ∀ {σ6 : L2.St} {H6 : Hp} {Q : Shared → Prop}, Inv (X.suite a ((a, oe4) :: (X.pn ++ pins))) [] σ6 H6 s6 → (∀ s7, Inv X pins (σ6.set i none) H6 s7 → Q s7) → wpAny (model X.prog X.w) X.A (do bindName X.env n .none; unbindBehindTheSuite X.env n pos') (fun _ s7 => Q s7) X.xe s6 :=
            fun S6 hq => gone_ok (S6.unsuite ok) hN hi hln hq
          cases f with
          | ret u => obtain ⟨_, _, _, S6, r6, q6⟩ := hsp; exact gone S6 fun s7 J7 => ⟨_, _, _, J7, r6, q6⟩
          | _ => obtain ⟨_, _, S6, q6⟩ := hsp; exact gone S6 fun s7 J7 => ⟨_, _, J7, q6⟩
    exact go hh w
  · cases f with
    | next => obtain ⟨σ', H', J', q⟩ := hsp; exact wpAny_execs_nil ⟨σ', H', J'.ofTry ok, q⟩
    | ret u => obtain ⟨v, σ', H', J', r, q⟩ := hsp; exact ⟨v, σ', H', J'.ofTry ok, r, q⟩
    | _ => obtain ⟨σ', H', J', q⟩ := hsp; exact ⟨σ', H', J'.ofTry ok, q⟩
end
end OwX

/-! Readings, one step at a time: each row takes the outermost word of a reading away. -/
namespace Rd
open PySem PySem.Spec PyProof.Rows L2 OwX
section
variable {σ : L2.St} {H : Hp} {Q : VK} {i : Nat} {v x y : V} {te ta tb tc : TE} {tr t u : TT} {ts tu : TS} {D : Ends} {tl tl' : TA} {r r' : R2}
theorem var (h : σ[i]? = some (some v)) (q : Q v H) : tVar i σ H Q := ⟨v, h, q⟩
theorem con (q : Q v H) : tC v σ H Q := q
theorem op (q : ta σ H fun x H1 => tb σ H1 fun y H2 => r x y H2 Q) : tOp r ta tb σ H Q := q
theorem un {r : V → Hp → VK → Prop} (q : ta σ H fun x H1 => r x H1 Q) : tUn r ta σ H Q := q
theorem nil {Q : List V → Hp → Prop} (q : Q [] H) : tNil σ H Q := q
theorem cons {Q : List V → Hp → Prop} (q : te σ H fun x H1 => tl σ H1 fun xs H2 => Q (x :: xs) H2) : tCons te tl σ H Q := q
theorem tup (q : tl σ H fun xs H1 => xs.length ≤ sizeLine ∧ ∀ p, H1 p = none → Q (.ref p) (upd H1 p (.tup xs))) : tTup tl σ H Q := q
theorem lst (q : tl σ H fun xs H1 => xs.length ≤ sizeLine ∧ ∀ p, H1 p = none → Q (.ref p) (upd H1 p (.lst xs))) : tLst tl σ H Q := q
theorem lstN (q : tl σ H fun xs H1 => xs.length ≤ sizeLine ∧ ∀ p, H1 p = none → p ≠ sysModules → Q (.ref p) (upd H1 p (.lst xs))) : tLstN tl σ H Q := q
theorem cb {r : List V → Hp → VK → Prop} (q : tl σ H fun vs H1 => r vs H1 Q) : tCB r tl σ H Q := q
theorem call {sp : Sp} {dvs : List V} {E : XK} (q : tl σ H fun vs H1 => sp (vs ++ dvs) H1 Q E) : tCall sp dvs E tl σ H Q := q
theorem callS {sp : Sp} {E : L2.St → XK} (q : tl σ H fun vs H1 => sp vs H1 Q (E σ)) : tCallS sp E tl σ H Q := q
theorem seq (q : ts { D with nx := tu D } σ H) : tSeq ts tu D σ H := q
theorem asg {g : TG} (q : te σ H fun x H1 => g x σ H1 D.nx) : tAsg te g D σ H := q
theorem gn {Q : L2.St → Hp → Prop} (q : Q (σ.set i (some v)) H) : gName i v σ H Q := q
theorem gs {to ti : TE} {t : TSet} {Q : L2.St → Hp → Prop} (q : to σ H fun o H1 => ti σ H1 fun i H2 => t o i v H2 fun H3 => Q σ H3) : gSub to ti t v σ H Q := q
theorem ret (q : te σ H D.rt) : tRet te D σ H := q
theorem nxt (q : D.nx σ H) : tNext D σ H := q
theorem drop (q : te σ H fun _ H1 => D.nx σ H1) : tDrop te D σ H := q
theorem ifs (q : t σ H fun b H1 => if b = true then ts D σ H1 else tu D σ H1) : tIfS t ts tu D σ H := q
theorem ite (q : t σ H fun c H1 => if c = true then ta σ H1 Q else tb σ H1 Q) : tIf t ta tb σ H Q := q
theorem test {Q : Bool → Hp → Prop} (q : te σ H fun x H' => ∃ k, x = .bl k ∧ Q k H') : tTest te σ H Q := q
theorem tbb {Q : Bool → Hp → Prop} (q : te σ H fun x H1 => ∃ c, x = .bl c ∧ Q c H1) : tB te σ H Q := q
theorem bl {Q : Bool → Prop} {b : Bool} (q : Q b) : ∃ k, V.bl b = .bl k ∧ Q k := ⟨b, rfl, q⟩
theorem and {Q : Bool → Hp → Prop} (q : t σ H fun c H1 => if c = true then u σ H1 Q else Q false H1) : tAnd t u σ H Q := q
theorem or {Q : Bool → Hp → Prop} (q : t σ H fun c H1 => if c = true then Q true H1 else u σ H1 Q) : tOr t u σ H Q := q
theorem not {Q : Bool → Hp → Prop} (q : t σ H fun c H1 => Q (!c) H1) : tNot t σ H Q := q
theorem ii {g : Int → Int → V} {i j : Int} (q : Q (g i j) H) : rI0 g (.int i) (.int j) H Q := ⟨i, j, rfl, rfl, q⟩
theorem ic {C : Int → Int → Prop} {g : Int → Int → V} {i j : Int} (c : C i j) (q : Q (g i j) H) : rI C g (.int i) (.int j) H Q := ⟨i, j, rfl, rfl, c, q⟩
theorem iu {g : Int → V} {i : Int} (q : Q (g i) H) : rU g (.int i) H Q := ⟨i, rfl, q⟩
theorem eq (h : scal x y = true) (q : Q (.bl (decide (x = y))) H) : rEq x y H Q := ⟨h, q⟩
theorem ne (h : scal x y = true) (q : Q (.bl (!decide (x = y))) H) : rNe x y H Q := ⟨h, q⟩
theorem ixl {K : PySem.W.Frag} {p : Addr} {xs : List V} {i : Int} (h : SqL K H p xs) (e : atI xs i = some v) (q : Q v H) : rIxL K (.ref p) (.int i) H Q := ⟨p, xs, i, v, rfl, rfl, h, e, q⟩
theorem ixt {K : PySem.W.Frag} {p : Addr} {xs : List V} {i : Int} (h : SqT K H p xs) (e : atI xs i = some v) (q : Q v H) : rIxT K (.ref p) (.int i) H Q := ⟨p, xs, i, v, rfl, rfl, h, e, q⟩
theorem setl {p : Addr} {xs : List V} {k : Int} {j : Nat} {Q : Hp → Prop} (h : H p = some (.lst xs)) (e : ixN xs.length k = some j) (q : Q (upd H p (.lst (xs.set j v)))) : rSetL (.ref p) (.int k) v H Q := ⟨p, xs, k, j, rfl, rfl, h, e, q⟩
end
end Rd

/-! Data that stands in the tracked heap, what type it has, and comprehensions that map it. -/
namespace OwX
open PySem PySem.Spec PyProof.Rows L2
mutual
inductive Dh (H : Hp) : V → PyData → Prop
  | non : Dh H .non .none
  | bl (b : Bool) : Dh H (.bl b) (.bool b)
  | int (i : Int) : Dh H (.int i) (.int i)
  | str (x : Str) (h : x.length ≤ 1000) : Dh H (.str x) (.str x)
  | lst {a : Addr} {xs : List V} {ds : List PyData} (e : H a = some (.lst xs)) (n : a ≠ sysModules) (z : xs.length ≤ 1000) (r : DhAll H xs ds) : Dh H (.ref a) (.list ds)
  | tup {a : Addr} {xs : List V} {ds : List PyData} (e : H a = some (.tup xs)) (z : xs.length ≤ 1000) (r : DhAll H xs ds) : Dh H (.ref a) (.tuple ds)
  | dic {a : Addr} {kvs : List (Key × V)} {kds : List (PyData × PyData)} (e : H a = some (.dK kvs)) (r1 : DhAll H (kvs.map fun p => kV p.1) (kds.map (·.1))) (r2 : DhAll H (kvs.map (·.2)) (kds.map (·.2))) : Dh H (.ref a) (.dict kds)
inductive DhAll (H : Hp) : List V → List PyData → Prop
  | nil : DhAll H [] []
  | cons {v : V} {vs : List V} {d : PyData} {ds : List PyData} (h : Dh H v d) (r : DhAll H vs ds) : DhAll H (v :: vs) (d :: ds)
end
mutual
theorem Dh.dq {K : PySem.W.Frag} {H : Hp} : ∀ {v : V} {d : PyData}, Dh H v d → Dq K H v d
  | _, _, .non => .non
  | _, _, .bl b => .bl b
  | _, _, .int i => .int i
  | _, _, .str x _ => .str x
  | _, _, .lst e n _ r => .lst (SqL.of e) n (DhAll.dq r)
  | _, _, .tup e _ r => .tup (SqT.of e) (DhAll.dq r)
  | _, _, .dic e r1 r2 => .dic e (DhAll.dq r1) (DhAll.dq r2)
theorem DhAll.dq {K : PySem.W.Frag} {H : Hp} : ∀ {vs : List V} {ds : List PyData}, DhAll H vs ds → DqAll K H vs ds
  | _, _, .nil => .nil
  | _, _, .cons h r => .cons (Dh.dq h) (DhAll.dq r)
end
mutual
theorem Dh.mv {H H' : Hp} (e : Evl.Ex H H') : ∀ {v : V} {d : PyData}, Dh H v d → Dh H' v d
  | _, _, .non => .non
  | _, _, .bl b => .bl b
  | _, _, .int i => .int i
  | _, _, .str x h => .str x h
  | _, _, .lst h n z r => .lst (e _ _ h) n z (DhAll.mv e r)
  | _, _, .tup h z r => .tup (e _ _ h) z (DhAll.mv e r)
  | _, _, .dic h r1 r2 => .dic (e _ _ h) (DhAll.mv e r1) (DhAll.mv e r2)
theorem DhAll.mv {H H' : Hp} (e : Evl.Ex H H') : ∀ {vs : List V} {ds : List PyData}, DhAll H vs ds → DhAll H' vs ds
  | _, _, .nil => .nil
  | _, _, .cons h r => .cons (Dh.mv e h) (DhAll.mv e r)
end
theorem DhAll.len {H : Hp} : ∀ {vs : List V} {ds : List PyData}, DhAll H vs ds → vs.length = ds.length
  | _, _, .nil => rfl
  | _, _, .cons _ r => congrArg (· + 1) (DhAll.len r)
theorem DhAll.at {H : Hp} : ∀ {vs : List V} {ds : List PyData} {i : Nat} {v : V}, DhAll H vs ds → vs[i]? = some v → ∃ d, ds[i]? = some d ∧ Dh H v d
  | _, _, 0, _, .cons h _, e => ⟨_, rfl, by cases (show some _ = some _ from e); exact h⟩
  | _, _, i + 1, _, .cons _ r, e => DhAll.at (i := i) r e
def tyD : PyData → String
  | .none => "NoneType"
  | .bool _ => "bool"
  | .int _ => "int"
  | .str _ => "str"
  | .list _ => "list"
  | .tuple _ => "tuple"
  | .dict _ => "dict"
theorem Dh.ty {K : PySem.W.Frag} {H : Hp} {v : V} {d : PyData} (h : Dh H v d) : TyX K H v (.type (tyD d)) := by
  cases h with
  | non => exact .base .non
  | bl b => exact .base (.bl b)
  | int i => exact .base (.int i)
  | str x _ => exact .base (.str x)
  | lst e _ _ _ => exact .base (.lst e)
  | tup e _ _ => exact .base (.tup e)
  | dic e _ _ => exact .base (.dK e)
def isD (d : PyData) (n : String) : Bool := tyD d == n || (tyD d == "bool" && n == "int")
theorem kit_d (d : PyData) (n : String) (hn : n ∈ ["int", "bool", "str", "tuple", "dict", "list"]) : kitB (tyD d) n = some (isD d n) := by
  have z : ∀ t ∈ ["NoneType", "bool", "int", "str", "list", "tuple", "dict"], ∀ n ∈ ["int", "bool", "str", "tuple", "dict", "list"], kitB t n = some (t == n || (t == "bool" && n == "int")) := by decide +kernel
  exact z (tyD d) (by cases d <;> simp [tyD]) n hn
end OwX
namespace Rd
open PySem PySem.Spec PyProof.Rows L2 OwX Evl
section
variable {K : PySem.W.Frag} {σ : L2.St} {H : Hp} {Q : VK}
theorem isi {v : V} {d : PyData} {n : String} (h : Dh H v d) (hn : n ∈ ["int", "bool", "str", "tuple", "dict", "list"]) (q : Q (.bl (isD d n)) H) : rIsi K [v, .ty n] H Q := ⟨v, .ty n, _, .type n, _, rfl, .ty n, h.ty, kit_ty (kit_d d n hn), q⟩
theorem iteT {c A B : Prop} [Decidable c] (h : c) (a : A) : if c then A else B := by
  rw [if_pos h]
  exact a
theorem iteF {c A B : Prop} [Decidable c] (h : ¬ c) (b : B) : if c then A else B := by
  rw [if_neg h]
  exact b
theorem andv {ta tb : TE} (q : ta σ H fun x H1 => ∃ c, x = .bl c ∧ if c = true then tb σ H1 Q else Q (.bl false) H1) : tAndV ta tb σ H Q := q
theorem notv {ta : TE} (q : ta σ H fun x H1 => ∃ c, x = .bl c ∧ Q (.bl (!c)) H1) : tNotV ta σ H Q := q
theorem chain {r r' : R2} {ta tb tc : TE} (q : ta σ H fun x H1 => tb σ H1 fun y H2 => r x y H2 fun z H3 => ∃ k, z = .bl k ∧ (if k = true then tc σ H3 fun w' H4 => r' y w' H4 Q else Q (.bl false) H3)) : tChain r r' ta tb tc σ H Q := q
theorem lcm' {wi : TI} {g : TG} {tt : TT} {te : TE} {vs : List Nat} (q : wi σ H fun J H1 => ∀ D, H1 D = none → ∃ W : Nat → Nat → Hp → Prop, (∃ m, W 0 m (upd H1 D (.lst []))) ∧ ∀ i m H, W i m H →
  (J.stop i H ∧ Q (.ref D) H) ∨ (J.go i H ∧ ∃ Nx : Hp → Prop, (∀ H', Nx H' → ∃ m', m' < m ∧ W (i + 1) m' H') ∧ ∀ x H', J.yld i H x H' → g x (wipe σ vs) H' fun σ2 H2 => wipe σ2 vs = wipe σ vs ∧ tt σ2 H2 fun b H3 =>
    if b = true then te σ2 H3 fun y H4 => ∃ acc, H4 D = some (.lst acc) ∧ acc.length < sizeLine ∧ Nx (upd H4 D (.lst (acc ++ [y]))) else Nx H3)) : tLc wi g tt te vs σ H Q := q
theorem ilist' {tl : TE} {R : It → Hp → Prop} (q : tl σ H fun x H1 => ∃ a, x = .ref a ∧ (∃ xs, SqL K H1 a xs) ∧ R (Itl K a) H1) : iList K tl σ H R := q
theorem istr' {te : TE} {R : It → Hp → Prop} (q : te σ H fun v H1 => ∃ x, v = .str x ∧ R (Its x) H1) : iStr te σ H R := q
theorem irng' {ta : TA} {R : It → Hp → Prop} (q : ta σ H fun vs H1 => ∃ j : Int, vs = [.int j] ∧ -(2 ^ 62) ≤ j ∧ j < 2 ^ 62 ∧ R (Itr 0 j.toNat) H1) : iRng1 ta σ H R := q
/-- a comprehension without a test whose i-th element is f i, whatever the heap does beside -/
theorem lc_mapV {J : It} {n : Nat} {G : Hp → Prop} {Y : Nat → Hp → V → Hp → Prop} (wk : Walk J n G Y) (f : Nat → V) {te : TE} {j : Nat} {σ : L2.St} {H1 : Hp} {D : Addr} {Qd : Hp → Prop} (hD : H1 D = none) (hn : n ≤ 100000) (hG : ∀ H', Ex H1 H' → G H') (hw : ∀ x, wipe ((wipe σ [j]).set j (some x)) [j] = wipe σ [j])
    (hs : ∀ i x H H' R, i < n → Ex H1 H → Y i H x H' → (∀ H4, Ex H H4 → R (f i) H4) → te ((wipe σ [j]).set j (some x)) H' R) (hd : ∀ H, Ex H1 H → H D = some (.lst ((List.range n).map f)) → Qd H) :
    ∃ W : Nat → Nat → Hp → Prop, (∃ m, W 0 m (upd H1 D (.lst []))) ∧ ∀ i m H, W i m H →
      (J.stop i H ∧ Qd H) ∨ (J.go i H ∧ ∃ Nx : Hp → Prop, (∀ H', Nx H' → ∃ m', m' < m ∧ W (i + 1) m' H') ∧ ∀ x H', J.yld i H x H' → gName j x (wipe σ [j]) H' fun σ2 H2 => wipe σ2 [j] = wipe σ [j] ∧ tYes σ2 H2 fun b H3 =>
        if b = true then te σ2 H3 fun y H4 => ∃ acc, H4 D = some (.lst acc) ∧ acc.length < sizeLine ∧ Nx (upd H4 D (.lst (acc ++ [y]))) else Nx H3) := by
  refine lc_it wk (fun i H => Ex H1 H ∧ H D = some (.lst ((List.range i).map f))) ⟨Ex.new hD, upd_same⟩ (fun i H hi p => hG H p.1) (fun i x H H' hi p y => ⟨hw x, ?_⟩) (fun H p => hd H p.1 p.2)
  show te _ _ _
  refine hs i x H H' _ hi p.1 y fun H4 e4 => ⟨_, e4 _ _ p.2, ?_, (p.1.trans e4).mut hD, ?_⟩
  · simp only [List.length_map, List.length_range]
    exact sz_lt (by omega)
  · rw [List.range_succ, List.map_append]
    exact upd_same
/-- a comprehension with a test: the kept ones of the first i, in order -/
theorem lc_keep {J : It} {n : Nat} {G : Hp → Prop} {Y : Nat → Hp → V → Hp → Prop} (wk : Walk J n G Y) (p : Nat → Bool) (f : Nat → V) {tt : TT} {te : TE} {j : Nat} {σ : L2.St} {H1 : Hp} {D : Addr} {Qd : Hp → Prop} (hD : H1 D = none) (hn : n ≤ 100000) (hG : ∀ H', Ex H1 H' → G H') (hw : ∀ x, wipe ((wipe σ [j]).set j (some x)) [j] = wipe σ [j])
    (hs : ∀ i x H H' (R : Bool → Hp → Prop), i < n → Ex H1 H → Y i H x H' → (∀ H4, Ex H H4 → R (p i) H4) → tt ((wipe σ [j]).set j (some x)) H' R)
    (he : ∀ i x H H' H4 R, i < n → Ex H1 H → Y i H x H' → p i = true → Ex H H4 → (∀ H5, Ex H H5 → R (f i) H5) → te ((wipe σ [j]).set j (some x)) H4 R) (hd : ∀ H, Ex H1 H → H D = some (.lst (((List.range n).filter p).map f)) → Qd H) :
    ∃ W : Nat → Nat → Hp → Prop, (∃ m, W 0 m (upd H1 D (.lst []))) ∧ ∀ i m H, W i m H →
      (J.stop i H ∧ Qd H) ∨ (J.go i H ∧ ∃ Nx : Hp → Prop, (∀ H', Nx H' → ∃ m', m' < m ∧ W (i + 1) m' H') ∧ ∀ x H', J.yld i H x H' → gName j x (wipe σ [j]) H' fun σ2 H2 => wipe σ2 [j] = wipe σ [j] ∧ tt σ2 H2 fun b H3 =>
        if b = true then te σ2 H3 fun y H4 => ∃ acc, H4 D = some (.lst acc) ∧ acc.length < sizeLine ∧ Nx (upd H4 D (.lst (acc ++ [y]))) else Nx H3) := by
  refine lc_it wk (fun i H => Ex H1 H ∧ H D = some (.lst (((List.range i).filter p).map f))) ⟨Ex.new hD, upd_same⟩ (fun i H hi p => hG H p.1) (fun i x H H' hi pv y => ⟨hw x, ?_⟩) (fun H pv => hd H pv.1 pv.2)
  show tt _ _ _
  refine hs i x H H' _ hi pv.1 y fun H3 e3 => ?_
  have step : (List.range (i + 1)).filter p = (List.range i).filter p ++ (if p i = true then [i] else []) := by
    rw [List.range_succ, List.filter_append]
    by_cases c : p i = true <;> simp [c]
  by_cases c : p i = true
  · rw [if_pos c]
    rw [if_pos c] at step
    refine he i x H H' H3 _ hi pv.1 y c e3 fun H4 e4 => ⟨_, e4 _ _ pv.2, ?_, (pv.1.trans e4).mut hD, ?_⟩
    · have z : ((List.range i).filter p).length ≤ i := Nat.le_trans (List.length_filter_le _ _) (Nat.le_of_eq List.length_range)
      rw [List.length_map]
      exact sz_lt (by omega)
    · rw [step, List.map_append]
      exact upd_same
  · rw [if_neg c]
    rw [if_neg c, List.append_nil] at step
    rw [step]
    exact ⟨pv.1.trans e3, e3 _ _ pv.2⟩
end
end Rd

local macro_rules | `(tactic| walk_at "rd") => `(tactic| repeat (first
  | ((with_reducible refine' Rd.var ?hv ?_); (case hv => rfl)) | (with_reducible refine Rd.con ?_) | (with_reducible refine Rd.op ?_) | (with_reducible refine Rd.cons ?_) | (with_reducible refine Rd.nil ?_) | (with_reducible refine Rd.cb ?_) | (with_reducible refine Rd.seq ?_)
  | (with_reducible refine Rd.asg ?_) | (with_reducible refine Rd.gn ?_) | (with_reducible refine Rd.gs ?_) | (with_reducible refine Rd.ret ?_) | (with_reducible refine Rd.nxt ?_) | (with_reducible refine Rd.drop ?_) | (with_reducible refine Rd.ifs ?_) | (with_reducible refine Rd.ite ?_) | (with_reducible refine Rd.test ?_)
  | (with_reducible refine Rd.tbb ?_) | (with_reducible refine Rd.bl ?_) | (with_reducible refine Rd.and ?_) | (with_reducible refine Rd.or ?_) | (with_reducible refine Rd.not ?_) | (with_reducible refine Rd.ii ?_) | (with_reducible refine Rd.un ?_) | (with_reducible refine Rd.iu ?_) | (with_reducible refine Rd.call ?_) | (with_reducible refine Rd.callS ?_)
  | (with_reducible refine Rd.tup ?_) | (with_reducible refine Rd.lst ?_) | (with_reducible refine Rd.lstN ?_)))
namespace OwW
open PySem L2 OwX
def top (i : Nat) : Stmt := PySem.Challenge.pw_owedround_k10_whole_lendings_and_plans.main.body.getD i (.Pass ⟨0, 0, 0, 0⟩)
abbrev sDice : Stmt := top 44
abbrev sRoll : Stmt := top 45
abbrev sPick : Stmt := top 46
/-- what stands in a law's dice -/
def DiceOk (l s n : Int) : Prop := 0 ≤ l ∧ 0 ≤ s ∧ 0 ≤ n
def dice (l s n : Int) : HO := .lst [.int l, .int s, .int n]
structure Blt (mg : Str → Option Value) : Prop where
  len : mg "len" = none
  int : mg "int" = none
  max : mg "max" = none
  min : mg "min" = none
  abs : mg "abs" = none
  range : mg "range" = none
def spRoll : Sp := fun vs H Q _ => ∃ (a : Addr) (l s n t : Int), vs = [.ref a, .int t] ∧ H a = some (dice l s n) ∧ DiceOk l s n ∧ 0 < t ∧ t ≤ 1000000 ∧ ∀ r l' s' n', 0 ≤ r → r < t → DiceOk l' s' n' → Q (.int r) (upd H a (dice l' s' n'))
section
variable {P : Program} {w : World} {K : PySem.W.Frag} {mg : Str → Option Value} {base : Heap}
theorem scRoll : FnScope ["_law_dice_here", "_law_total", "_law_found", "_law_one", "_law_two"] ["_law_dice_here", "_law_total"] (defScope sRoll) := ⟨rfl, rfl, rfl, by decide +kernel, rfl, by decide +kernel, by decide +kernel⟩
theorem ok_roll {f : Addr} {fd : FuncData} (F : Fun K "_law_roll" "_law_roll" sRoll f fd) (T : Blt mg) : FnOk P w K mg base CX0 1 f fd ["_law_dice_here", "_law_total"] spRoll := by
  have nd := scRoll.nd
  refine F.ok scRoll (fun vs H Q E h => ?_) (fun cdv A outer s H vs Q E hr h => ⟨_, (pss_cons (ps_if (pt_cmpR op_gt (pe_ix ix_list (pv 0) pe_int (fun _ _ => rfl)) pe_int (nomark _)) (pss_cons (ps_set (i := 2) nd rfl (Or.inl rfl) (pe_op op_mod (pe_callTy call_int1 (by rfl) T.int (by decide +kernel) (pa_cons (pe_ix ix_list (pv 0) pe_int (fun _ _ => rfl)) pa_nil)) (pv 1)))
    (pss_cons (ps_asg (pe_op op_fdiv (pe_ix ix_list (pv 0) pe_int (fun _ _ => rfl)) (pv 1)) (pg_sub (pv 0) pe_int set_list))
    (pss_one (ps_ret (pv 2))))) pss_nil)
    (pss_cons (ps_asg (pe_op op_add (pe_ix ix_list (pv 0) pe_int (fun _ _ => rfl)) pe_int) (pg_sub (pv 0) pe_int set_list))
    (pss_cons (ps_set (i := 3) nd rfl (Or.inl rfl) (pe_op op_mod (pe_callTy call_int1 (by rfl) T.int (by decide +kernel) (pa_cons (pe_op op_add (pe_ix ix_list (pv 0) pe_int (fun _ _ => rfl)) (pe_op op_mul pe_int (pe_ix ix_list (pv 0) pe_int (fun _ _ => rfl)))) pa_nil)) pe_int))
    (pss_cons (ps_set (i := 4) nd rfl (Or.inl rfl) (pe_op op_add (pe_op op_mul (pe_op op_mod (pe_callTy call_int1 (by rfl) T.int (by decide +kernel) (pa_cons (pe_op op_add (pe_op op_mul (pv 3) (pv 3)) (pe_op op_mul pe_int (pe_ix ix_list (pv 0) pe_int (fun _ _ => rfl)))) pa_nil)) pe_int) pe_int) (pv 3)))
    (pss_one (ps_ret (pe_op op_mod (pe_callTy call_int1 (by rfl) T.int (by decide +kernel) (pa_cons (pe_op op_fdiv (pv 4) pe_int) pa_nil)) (pv 1)))))))), ?_⟩)
  · obtain ⟨a, l, s, n, t, rfl, _⟩ := h
    rfl
  · obtain ⟨a, l, s, n, t, rfl, hH, ⟨hl, hs, hn⟩, ht, ht2, k⟩ := h
    have hS : SqL K H a [.int l, .int s, .int n] := SqL.of hH
    have e0 : ∀ x y z : Int, atI [V.int x, V.int y, V.int z] (0 : Int) = some (V.int x) := fun _ _ _ => rfl
    have e1 : ∀ x y z : Int, atI [V.int x, V.int y, V.int z] (1 : Int) = some (V.int y) := fun _ _ _ => rfl
    have e2 : ∀ x y z : Int, atI [V.int x, V.int y, V.int z] (2 : Int) = some (V.int z) := fun _ _ _ => rfl
    walk_at "rd"
    refine Rd.ixl hS (e0 _ _ _) ?_
    walk_at "rd"
    refine ite2 (fun c => ?_) (fun c => ?_)
    · have c' : 0 < l := of_decide_eq_true c
      walk_at "rd"
      refine Rd.ixl hS (e0 _ _ _) ?_
      walk_at "rd"
      refine Or.inl ⟨l, rfl, ?_⟩
      walk_at "rd"
      refine Rd.ic ht ?_
      walk_at "rd"
      refine Rd.ixl hS (e0 _ _ _) ?_
      walk_at "rd"
      refine Rd.ic ⟨ht, by omega⟩ ?_
      walk_at "rd"
      refine Rd.setl hH rfl ?_
      walk_at "rd"
      exact k _ _ _ _ (Int.emod_nonneg _ (by omega)) (Int.emod_lt_of_pos _ ht) ⟨Int.ediv_nonneg hl (by omega), hs, hn⟩
    · walk_at "rd"
      refine Rd.ixl hS (e2 _ _ _) ?_
      walk_at "rd"
      refine Rd.setl hH rfl ?_
      have hH2 : (upd H a (HO.lst ([V.int l, V.int s, V.int n].set (Int.toNat 2) (V.int (n + 1))))) a = some (dice l s (n + 1)) := upd_same
      have hS2 : SqL K (upd H a (HO.lst ([V.int l, V.int s, V.int n].set (Int.toNat 2) (V.int (n + 1))))) a [.int l, .int s, .int (n + 1)] := SqL.of hH2
      walk_at "rd"
      refine Rd.ixl hS2 (e1 _ _ _) ?_
      walk_at "rd"
      refine Rd.ixl hS2 (e2 _ _ _) ?_
      refine Rd.ic (Or.inl ⟨by decide, by decide⟩) ?_
      walk_at "rd"
      refine Or.inl ⟨_, rfl, ?_⟩
      walk_at "rd"
      refine Rd.ic (by decide) ?_
      generalize h1 : (s + 57885161 * (n + 1)) % 2305843009213693907 = one
      have b1 : 0 ≤ one ∧ one < 2305843009213693907 := by omega
      walk_at "rd"
      refine Rd.ic (Or.inl ⟨by omega, by omega⟩) ?_
      walk_at "rd"
      refine Rd.ixl hS2 (e2 _ _ _) ?_
      refine Rd.ic (Or.inl ⟨by decide, by decide⟩) ?_
      walk_at "rd"
      refine Or.inl ⟨_, rfl, ?_⟩
      walk_at "rd"
      refine Rd.ic (by decide) ?_
      walk_at "rd"
      refine Rd.ic (Or.inr ⟨by decide, by decide⟩) ?_
      walk_at "rd"
      refine Rd.ic ⟨by decide, by decide⟩ ?_
      walk_at "rd"
      refine Or.inl ⟨_, rfl, ?_⟩
      walk_at "rd"
      refine Rd.ic ht ?_
      exact k _ _ _ _ (Int.emod_nonneg _ (by omega)) (Int.emod_lt_of_pos _ ht) ⟨hl, hs, by omega⟩
theorem scPick : FnScope ["_law_dice_here", "_law_items"] ["_law_dice_here", "_law_items"] (defScope sPick) := ⟨rfl, rfl, rfl, by decide +kernel, rfl, by decide +kernel, by decide +kernel⟩
def spPick (K : PySem.W.Frag) : Sp := fun vs H Q _ => ∃ (a b : Addr) (l s n : Int) (xs : List V), vs = [.ref a, .ref b] ∧ a ≠ b ∧ H a = some (dice l s n) ∧ DiceOk l s n ∧ H b = some (.lst xs) ∧ 0 < xs.length ∧ xs.length ≤ 1000000 ∧ ∀ x l' s' n', x ∈ xs → DiceOk l' s' n' → Q x (upd H a (dice l' s' n'))
theorem rollBinds {f : Addr} {fd : FuncData} (F : Fun K "_law_roll" "_law_roll" sRoll f fd) : Binds K fd ["_law_dice_here", "_law_total"] [] := F.binds fun _ _ _ _ _ _ us hl => match us, hl with | [_, _], _ => rfl
theorem ok_pick {f fr : Addr} {fd fdr : FuncData} (F : Fun K "_law_pick" "_law_pick" sPick f fd) (T : Blt mg) (FR : Fun K "_law_roll" "_law_roll" sRoll fr fdr) (gR : mg "_law_roll" = some (.ref fr)) :
    FnOk P w K mg base CX0 2 f fd ["_law_dice_here", "_law_items"] (spPick K) := by
  have nd := scPick.nd
  have GR : FnOk P w K mg base CX0 1 fr fdr ["_law_dice_here", "_law_total"] spRoll := ok_roll FR T
  have bR := rollBinds FR
  refine F.ok scPick (fun vs H Q E h => ?_) (fun cdv A outer s H vs Q E hr h => ⟨_, (pss_one (ps_ret (pe_ix ix_list (pv 1) (pe_call GR hr rfl gR FR.kp bR .nil pass0 (pa_cons (pv 0) (pa_cons (pe_callB call_len_seq (by rfl) T.len (by decide +kernel) (pa_cons (pv 1) pa_nil)) pa_nil))) (fun _ _ => rfl)))), ?_⟩)
  · obtain ⟨a, b, l, s, n, xs, rfl, _⟩ := h
    rfl
  · obtain ⟨a, b, l, s, n, xs, rfl, hab, hH, hd, hb, h0, h1, k⟩ := h
    walk_at "rd"
    refine ⟨_, _, rfl, Or.inl (SqL.of hb), ?_⟩
    walk_at "rd"
    refine ⟨a, l, s, n, _, rfl, hH, hd, by omega, by omega, fun r l' s' n' r0 r1 hd' => ?_⟩
    have hb' : upd H a (dice l' s' n') b = some (.lst xs) := (upd_ne (Ne.symm hab)).trans hb
    obtain ⟨m, rfl⟩ := Int.eq_ofNat_of_zero_le r0
    have hm : m < xs.length := by omega
    refine Rd.ixl (SqL.of hb') (v := xs[m]) ?_ (k _ _ _ _ (List.getElem_mem hm) hd')
    exact atI_nat (List.getElem?_eq_getElem hm)
theorem scDice : FnScope ["_law_script", "_law_spot", "_law_cell", "_law_left"] ["_law_script", "_law_spot"] (defScope sDice) := ⟨rfl, rfl, rfl, by decide +kernel, rfl, by decide +kernel, by decide +kernel⟩
def spDice (K : PySem.W.Frag) : Sp := fun vs H Q _ => ∃ (a : Addr) (t : Int) (ns : List Int), vs = [.ref a, .int t] ∧ 0 ≤ t ∧ t ≤ 1000 ∧ SqL K H a (ns.map V.int) ∧ ∀ p l s, H p = none → p ≠ sysModules → DiceOk l s 0 → Q (.ref p) (upd H p (dice l s 0))
theorem sz3 (a b c : V) : [a, b, c].length ≤ sizeLine := by
  rw [sizeLine_eq]
  exact (by decide : 3 ≤ 16777216)
theorem ok_dice {f : Addr} {fd : FuncData} (F : Fun K "_law_dice" "_law_dice" sDice f fd) (T : Blt mg) : FnOk P w K mg base CX0 1 f fd ["_law_script", "_law_spot"] (spDice K) := by
  have nd := scDice.nd
  refine F.ok scDice (fun vs H Q E h => ?_) (fun cdv A outer s H vs Q E hr h => ⟨_, (pss_cons (ps_set (i := 2) nd rfl (Or.inl rfl) (pe_ifExp (pt_cmpR op_lt (pv 1) (pe_callB call_len_seq (by rfl) T.len (by decide +kernel) (pa_cons (pv 0) pa_nil)) (nomark _)) (pe_callTy call_int1 (by rfl) T.int (by decide +kernel) (pa_cons (pe_ix ix_list (pv 0) (pv 1) (fun _ _ => rfl)) pa_nil)) (pe_op op_add (pe_op op_mul pe_int (pv 1)) pe_int)))
    (pss_cons (ps_set (i := 3) nd rfl (Or.inl rfl) (pe_op op_mod (pe_callB (call_max2 rfl) (by rfl) T.max (by decide +kernel) (pa_cons pe_int (pa_cons (pe_op op_sub (pe_callB call_abs (by rfl) T.abs (by decide +kernel) (pa_cons (pv 2) pa_nil)) (pe_op op_pow pe_int pe_int)) pa_nil))) (pe_op op_mulW (pe_op op_pow pe_int pe_int) (pe_op op_pow pe_int pe_int))))
    (pss_one (ps_ret (pe_lstN (pa_cons (pv 3) (pa_cons (pe_op op_add (pe_op op_add (pe_op op_add (pe_op op_mul (pe_op op_mod (pe_callB call_abs (by rfl) T.abs (by decide +kernel) (pa_cons (pv 2) pa_nil)) pe_int) pe_int) (pe_op op_mul pe_int (pv 1))) (pe_op op_mul pe_int (pe_callTy call_int1 (by rfl) T.int (by decide +kernel) (pa_cons (pe_cmpR op_lt (pv 2) pe_int (nomark _)) pa_nil)))) pe_int) (pa_cons pe_int pa_nil)))))))), ?_⟩)
  · obtain ⟨a, t, ns, rfl, _⟩ := h
    rfl
  · obtain ⟨a, t, ns, rfl, h0, h1, hS, k⟩ := h
    walk_at "rd"
    refine ⟨_, _, rfl, Or.inl hS, ?_⟩
    walk_at "rd"
    refine ite2 (fun c => ?_) (fun c => ?_)
    have c' : t < ((ns.map V.int).length : Int) := of_decide_eq_true c
    obtain ⟨m, rfl⟩ := Int.eq_ofNat_of_zero_le h0
    have hm : m < ns.length := by rw [List.length_map] at c'; omega
    walk_at "rd"
    refine Rd.ixl hS (v := .int ns[m]) (atI_nat (by rw [List.getElem?_map, List.getElem?_eq_getElem hm]; rfl)) ?_
    walk_at "rd"
    refine Or.inl ⟨_, rfl, ?_⟩
    generalize ns[m] = z
    rotate_left
    walk_at "rd"
    refine Rd.ic (Or.inl ⟨by decide, by decide⟩) ?_
    generalize 59 * t + 31 = z
    all_goals
      walk_at "rd"
      refine ⟨_, rfl, ?_⟩
      walk_at "rd"
      refine Rd.ic ⟨by decide, by decide, by decide⟩ ?_
      walk_at "rd"
      refine ⟨_, _, rfl, ?_⟩
      walk_at "rd"
      refine Rd.ic ⟨by decide, by decide, by decide⟩ ?_
      walk_at "rd"
      refine Rd.ic ⟨by decide, by decide, by decide⟩ ?_
      refine Rd.ic (by unfold CMulW; decide +kernel) ?_
      refine Rd.ic (by decide +kernel) ?_
      walk_at "rd"
      refine ⟨_, rfl, ?_⟩
      walk_at "rd"
      refine Rd.ic (by decide) ?_
      walk_at "rd"
      refine Rd.ic (Or.inr ⟨by decide, by decide⟩) ?_
      walk_at "rd"
      refine Rd.ic (Or.inl ⟨by decide, by decide⟩) ?_
      walk_at "rd"
      refine Or.inr ⟨_, rfl, ?_⟩
      walk_at "rd"
      refine Rd.ic (Or.inl ⟨by decide, by decide⟩) ?_
      walk_at "rd"
      refine ⟨sz3 _ _ _, fun p hp hpm => k p _ _ hp hpm ⟨?_, ?_, by decide⟩⟩
      · exact Int.emod_nonneg _ (by decide)
      · have e1 := Int.emod_nonneg (if z < 0 then -z else z) (by decide : (1152921504606846883 : Int) ≠ 0)
        have e2 : (0 : Int) ≤ if decide (z < 0) = true then 1 else 0 := by split <;> decide
        omega
end
end OwW


namespace OwW
open PySem L2 L2H OwX Rd Evl
abbrev sWhole : Stmt := top 16
abbrev sInteger : Stmt := top 12
abbrev sName : Stmt := top 13
abbrev sNames : Stmt := top 14
def wholeD : PyData → Bool
  | .int _ => true
  | _ => false
def integerD : PyData → Bool
  | .int i => decide (i.natAbs < 10 ^ 60)
  | _ => false
def countD : PyData → Bool
  | .int i => decide (i.natAbs < 10 ^ 60) && decide (0 ≤ i)
  | _ => false
def letB (c : Nat) : Bool := (!decide ((⟨#[c]⟩ : Str).cps.toList < ("a" : Str).cps.toList)) && (!decide (("z" : Str).cps.toList < (⟨#[c]⟩ : Str).cps.toList))
def nameB (x : Str) : Bool := (decide (1 ≤ x.length) && decide (x.length ≤ 8)) && ((List.range x.cps.size).map fun i => letB (x.cps.getD i 0)).all id
def nameD : PyData → Bool
  | .str x => nameB x
  | _ => false
def namesD : PyData → Bool
  | .tuple ds => ds.all nameD
  | _ => false
def intOf : PyData → Option Int
  | .int i => some i
  | _ => none
def fracI : Option Int → Option Int → Bool
  | some a, some b => decide (1 ≤ b) && decide (Nat.gcd a.natAbs b.natAbs = 1)
  | _, _ => false
def fracD : PyData → Bool
  | .tuple [x, y] => fracI (intOf x) (intOf y)
  | _ => false
/-- a question about data -/
def spB (f : PyData → Bool) : Sp := fun vs H Q _ => ∃ (v : V) (d : PyData), vs = [v] ∧ Dh H v d ∧ ∀ H', Ex H H' → Q (.bl (f d)) H'
structure BltW (mg : Str → Option Value) : Prop where
  isinst : mg "isinstance" = none
  int : mg "int" = none
  bool : mg "bool" = none
  str : mg "str" = none
  tuple : mg "tuple" = none
  dict : mg "dict" = none
  len : mg "len" = none
  abs : mg "abs" = none
  all : mg "all" = none
  set : mg "set" = none
theorem isD_int (d : PyData) : (isD d "int" && !isD d "bool") = wholeD d := by cases d <;> simp [isD, tyD, wholeD]
section
variable {P : Program} {w : World} {K : PySem.W.Frag} {mg : Str → Option Value} {base : Heap}
theorem scWhole : FnScope ["value"] ["value"] (defScope sWhole) := ⟨rfl, rfl, rfl, by decide +kernel, rfl, by decide +kernel, by decide +kernel⟩
theorem ok_whole {f : Addr} {fd : FuncData} (F : Fun K "_is_whole" "_is_whole" sWhole f fd) (T : BltW mg) : FnOk P w K mg base CX0 1 f fd ["value"] (spB wholeD) := by
  have nd := scWhole.nd
  refine F.ok scWhole (fun vs H Q E h => ?_) (fun cdv A outer s H vs Q E hr h => ⟨_, (pss_one (ps_ret (pe_and (pe_callB call_isi (by rfl) T.isinst (by decide +kernel) (pa_cons (pv 0) (pa_cons (pe_bltn (v := .ty "int") (by rfl) T.int (by decide +kernel) rfl) pa_nil))) (pe_one (pe_not (pe_callB call_isi (by rfl) T.isinst (by decide +kernel) (pa_cons (pv 0) (pa_cons (pe_bltn (v := .ty "bool") (by rfl) T.bool (by decide +kernel) rfl) pa_nil)))))))), ?_⟩)
  · obtain ⟨v, d, rfl, _⟩ := h
    rfl
  · obtain ⟨v, d, rfl, hd, k⟩ := h
    walk_at "rd"
    refine Rd.andv ?_
    walk_at "rd"
    refine Rd.isi hd (by decide) ⟨_, rfl, ?_⟩
    have e := isD_int d
    cases h1 : isD d "int" with
    | false =>
      rw [h1] at e
      have z := k H (Ex.refl H)
      rw [← e] at z
      exact z
    | true =>
      rw [h1, Bool.true_and] at e
      refine Rd.iteT rfl (Rd.notv ?_)
      walk_at "rd"
      refine Rd.isi hd (by decide) ⟨_, rfl, ?_⟩
      rw [e]
      exact k H (Ex.refl H)
theorem wholeBinds {f : Addr} {fd : FuncData} (F : Fun K "_is_whole" "_is_whole" sWhole f fd) : Binds K fd ["value"] [] := F.binds fun _ _ _ _ _ _ us hl => match us, hl with | [_], _ => rfl
theorem scInteger : FnScope ["value"] ["value"] (defScope sInteger) := ⟨rfl, rfl, rfl, by decide +kernel, rfl, by decide +kernel, by decide +kernel⟩
theorem ok_integer {f g : Addr} {fd gd : FuncData} (F : Fun K "is_integer" "is_integer" sInteger f fd) (FW : Fun K "_is_whole" "_is_whole" sWhole g gd) (gW : mg "_is_whole" = some (.ref g)) (T : BltW mg) : FnOk P w K mg base CX0 2 f fd ["value"] (spB integerD) := by
  have nd := scInteger.nd
  have GW : FnOk P w K mg base CX0 1 g gd ["value"] (spB wholeD) := ok_whole FW T
  have bW := wholeBinds FW
  refine F.ok scInteger (fun vs H Q E h => ?_) (fun cdv A outer s H vs Q E hr h => ⟨_, (pss_one (ps_ret (pe_and (pe_call GW hr (by rfl) gW FW.kp bW .nil pass0 (pa_cons (pv 0) pa_nil)) (pe_one (pe_cmpR op_lt (pe_callB call_abs (by rfl) T.abs (by decide +kernel) (pa_cons (pv 0) pa_nil)) (pe_op op_pow pe_int pe_int) (nomark _)))))), ?_⟩)
  · obtain ⟨v, d, rfl, _⟩ := h
    rfl
  · obtain ⟨v, d, rfl, hd, k⟩ := h
    walk_at "rd"
    refine Rd.andv ?_
    walk_at "rd"
    refine ⟨v, d, rfl, hd, fun H1 e1 => ⟨_, rfl, ?_⟩⟩
    cases hd with
    | int i =>
      refine Rd.iteT rfl ?_
      walk_at "rd"
      refine ⟨_, rfl, ?_⟩
      walk_at "rd"
      refine Rd.ic ⟨by decide, by decide, by decide⟩ ?_
      refine Rd.ii ?_
      have e : decide ((if i < 0 then -i else i) < (10 : Int) ^ Int.toNat 60) = integerD (.int i) := by
        unfold integerD
        refine decide_eq_decide.mpr ?_
        have p : ((10 : Int) ^ Int.toNat 60) = ((10 ^ 60 : Nat) : Int) := by decide +kernel
        rw [p]
        split <;> omega
      rw [e]
      exact k H1 e1
    | _ => exact k H1 e1
end
end OwW


namespace OwW
open PySem L2 L2H OwX Rd Evl
theorem bls (n : Nat) (g : Nat → Bool) : ((List.range n).map fun i => V.bl (g i)) = ((List.range n).map g).map V.bl := by
  rw [List.map_map]
  rfl
theorem range_get {α β : Type} (g : α → β) (d0 : α) : ∀ ds : List α, ((List.range ds.length).map fun i => g (ds.getD i d0)) = ds.map g := fun ds => by
  apply List.ext_getElem
  · simp
  · intro i h1 h2
    simp at h1
    simp [List.getD_eq_getElem?_getD, List.getElem?_eq_getElem h1]
section
variable {P : Program} {w : World} {K : PySem.W.Frag} {mg : Str → Option Value} {base : Heap}
abbrev NN : List Str := ["value", "letter"]
theorem scName : FnScope NN ["value"] (defScope sName) := ⟨rfl, rfl, rfl, by decide +kernel, rfl, by decide +kernel, by decide +kernel⟩
theorem ok_name {f : Addr} {fd : FuncData} {tM : Tok} (F : Fun K "is_name" "is_name" sName f fd) (gM : mg "MAX_LETTERS" = some (.int 8 tM)) (T : BltW mg) : FnOk P w K mg base CX0 1 f fd ["value"] (spB nameD) := by
  have nd := scName.nd
  refine F.ok scName (fun vs H Q E h => ?_) (fun cdv A outer s H vs Q E hr h => ⟨_, (pss_cons (ps_if ((pw_or (pt_not (pt_val (pe_callB call_isi (by rfl) T.isinst (by decide +kernel) (pa_cons (pv 0) (pa_cons (pe_bltn (v := .ty "str") (by rfl) T.str (by decide +kernel) rfl) pa_nil))) (fun _ => rfl))) (pw_or1 (pt_not (pt_chain op_le op_le pe_int (pe_callB call_len_str (by rfl) T.len (by decide +kernel) (pa_cons (pv 0) pa_nil)) (pe_glob (v := .int 8) (by rfl) gM ⟨_, rfl⟩)))))).pt (pss_one (ps_ret pe_bl)) pss_nil)
    (pss_one (ps_ret (pe_callB (cr_all rfl) (by rfl) T.all (by decide +kernel) (pa_cons (pe_lc (own := [("letter", 1)]) (g := gName 1) (tt := tYes) rfl nd (pi_str (pv 0)) (blkOk_by (own := [("letter", 1)]) (N := NN) (sc := defScope sName) (by decide +kernel)) (fun _ _ _ _ _ => (pg_name (i := 1) nd rfl (Or.inl rfl))) (fun _ _ _ _ _ => pts_nil) (fun _ _ _ _ _ => (pe_chain op_le_str op_le_str pe_str (pv 1) pe_str))) pa_nil))))), ?_⟩)
  · obtain ⟨v, d, rfl, _⟩ := h
    rfl
  · obtain ⟨v, d, rfl, hd, k⟩ := h
    walk_at "rd"
    refine Rd.isi hd (by decide) ⟨_, rfl, ?_⟩
    cases hd with
    | str x hx =>
      refine Rd.iteF (by simp [isD, tyD]) ?_
      walk_at "rd"
      refine Rd.chain ?_
      walk_at "rd"
      refine ⟨x, rfl, sz_of (Nat.le_trans hx (by decide)), ?_⟩
      refine Rd.ii ⟨_, rfl, ?_⟩
      have no : (decide (1 ≤ x.length) && decide (x.length ≤ 8)) = false → nameD (.str x) = false := fun c => by
        show nameB x = false
        unfold nameB
        rw [c, Bool.false_and]
      refine ite2 (fun c1 => ?_) (fun c1 => ?_)
      · have c1' : 1 ≤ x.length := by
          have := of_decide_eq_true c1
          omega
        walk_at "rd"
        refine ite2 (fun c2 => ?_) (fun c2 => ?_)
        · have c2' : ¬ x.length ≤ 8 := by
            intro z
            have e : decide ((x.length : Int) ≤ 8) = true := decide_eq_true (by omega)
            rw [e] at c2
            cases c2
          walk_at "rd"
          have z := k H (Ex.refl H)
          rw [no (by rw [decide_eq_false c2', Bool.and_false])] at z
          exact z
        · have c2' : x.length ≤ 8 := by
            refine Decidable.byContradiction fun z => c2 ?_
            have e : decide ((x.length : Int) ≤ 8) = false := decide_eq_false (by omega)
            rw [e]
            rfl
          walk_at "rd"
          refine Rd.lcm' (Rd.istr' ?_)
          walk_at "rd"
          refine ⟨x, rfl, fun D hD => ?_⟩
          refine Rd.lc_mapV walk_str (fun i => V.bl (letB (x.cps.getD i 0))) hD (by show x.length ≤ _; omega) (fun _ _ => trivial) (fun _ => rfl) (fun i y Ha Hb R hi ea y1 hR => ?_) (fun H2 e2 h2 => ?_)
          · obtain ⟨rfl, cc, hc, rfl⟩ := y1
            have ec : x.cps.getD i 0 = cc := by
              rw [Array.getD_eq_getD_getElem?, hc]
              rfl
            rw [ec] at hR
            refine Rd.chain ?_
            walk_at "rd"
            refine ⟨_, _, rfl, rfl, _, rfl, ?_⟩
            have el : letB cc = ((!decide ((⟨#[cc]⟩ : Str).cps.toList < ("a" : Str).cps.toList)) && (!decide (("z" : Str).cps.toList < (⟨#[cc]⟩ : Str).cps.toList))) := rfl
            refine ite2 (fun c => ?_) (fun c => ?_)
            · walk_at "rd"
              refine ⟨_, _, rfl, rfl, ?_⟩
              have z := hR _ (Ex.refl _)
              rw [el, c, Bool.true_and] at z
              exact z
            · have z := hR _ (Ex.refl _)
              rw [el, (Bool.not_eq_true _).mp c, Bool.false_and] at z
              exact z
          · walk_at "rd"
            rw [bls] at h2
            refine ⟨_, _, rfl, SqL.of h2, ?_⟩
            have z := k H2 e2
            have e : nameD (.str x) = ((List.range x.cps.size).map fun i => letB (x.cps.getD i 0)).all id := by
              show nameB x = _
              unfold nameB
              rw [decide_eq_true c1', decide_eq_true c2', Bool.true_and, Bool.true_and]
            rw [e] at z
            exact z
      · have c1' : ¬ 1 ≤ x.length := by
          intro z
          exact c1 (decide_eq_true (by omega))
        walk_at "rd"
        refine Rd.iteT rfl ?_
        walk_at "rd"
        have z := k H (Ex.refl H)
        rw [no (by rw [decide_eq_false c1', Bool.false_and])] at z
        exact z
    | _ =>
      refine Rd.iteT (by simp [isD, tyD]) ?_
      refine Rd.iteT rfl ?_
      walk_at "rd"
      exact k H (Ex.refl H)
abbrev NS : List Str := ["value", "name"]
theorem scNames : FnScope NS ["value"] (defScope sNames) := ⟨rfl, rfl, rfl, by decide +kernel, rfl, by decide +kernel, by decide +kernel⟩
theorem ok_names {f g : Addr} {fd gd : FuncData} (F : Fun K "are_names" "are_names" sNames f fd) (FN : Fun K "is_name" "is_name" sName g gd) (gN : mg "is_name" = some (.ref g)) (GN : FnOk P w K mg base CX0 1 g gd ["value"] (spB nameD)) (T : BltW mg) : FnOk P w K mg base CX0 2 f fd ["value"] (spB namesD) := by
  have nd := scNames.nd
  have bN : Binds K gd ["value"] [] := FN.binds fun _ _ _ _ _ _ us hl => match us, hl with | [_], _ => rfl
  refine F.ok scNames (fun vs H Q E h => ?_) (fun cdv A outer s H vs Q E hr h => ⟨_, (pss_one (ps_ret (pe_and (pe_callB call_isi (by rfl) T.isinst (by decide +kernel) (pa_cons (pv 0) (pa_cons (pe_bltn (v := .ty "tuple") (by rfl) T.tuple (by decide +kernel) rfl) pa_nil))) (pe_one (pe_callB (cr_all rfl) (by rfl) T.all (by decide +kernel) (pa_cons (pe_lc (own := [("name", 1)]) (g := gName 1) (tt := tYes) rfl nd (pi_tup (pv 0)) (blkOk_by (own := [("name", 1)]) (N := NS) (sc := defScope sNames) (by decide +kernel)) (fun _ _ _ _ _ => (pg_name (i := 1) nd rfl (Or.inl rfl))) (fun _ _ _ _ _ => pts_nil) (fun _ _ _ _ _ => (pe_call GN (hr.mono (by decide)) (by rfl) gN FN.kp bN .nil pass0 (pa_cons (pv 1) pa_nil)))) pa_nil)))))), ?_⟩)
  · obtain ⟨v, d, rfl, _⟩ := h
    rfl
  · obtain ⟨v, d, rfl, hd, k⟩ := h
    walk_at "rd"
    refine Rd.andv ?_
    walk_at "rd"
    refine Rd.isi hd (by decide) ⟨_, rfl, ?_⟩
    cases hd with
    | @tup a xs ds he hz hr2 =>
      refine Rd.iteT rfl ?_
      walk_at "rd"
      refine Rd.lcm' ?_
      refine ⟨_, rfl, a, rfl, ⟨xs, SqT.of he⟩, fun D hD => ?_⟩
      refine Rd.lc_mapV (walk_tup (xs := xs)) (fun i => V.bl (nameD (ds.getD i .none))) hD (by omega) (fun H' e => ex_t e (SqT.of he)) (fun _ => rfl) (fun i y Ha Hb R hi ea y1 hR => ?_) (fun H2 e2 h2 => ?_)
      · obtain ⟨rfl, y2⟩ := y1
        obtain ⟨d, hd, hh⟩ := hr2.at y2
        walk_at "rd"
        refine ⟨y, d, rfl, Dh.mv ea hh, fun H4 e4 => ?_⟩
        have z := hR H4 e4
        have ed : ds.getD i .none = d := by rw [List.getD_eq_getElem?_getD, hd]; rfl
        rw [ed] at z
        exact z
      · walk_at "rd"
        rw [bls] at h2
        refine ⟨_, _, rfl, SqL.of h2, ?_⟩
        have z := k H2 e2
        have e : namesD (.tuple ds) = (((List.range xs.length).map fun i => nameD (ds.getD i .none))).all id := by
          rw [hr2.len, range_get nameD .none ds]
          show ds.all nameD = _
          rw [List.all_map]
          rfl
        rw [e] at z
        exact z
    | _ =>
      refine Rd.iteF (by simp [isD, tyD]) ?_
      exact k H (Ex.refl H)
end
end OwW

/-! Sets of texts: made of a list or a tuple, their number, their sorted list. -/
namespace OwT
open PySem PySem.Spec PyProof.Rows PySem.Froz L2
/-- the set object at a holds the texts l, each once; it can be walked -/
def TxS (P : Program) (w : World) (h : Heap) (a : Addr) (l : List Str) : Prop :=
  ∃ D : SD, h.get? a = some (sObj "set" D) ∧ TxOk P w D l ∧ l.Nodup ∧ Ris D.2.2.place.toList ∧ (w.params.followText "set-order" = true ∨ D.2.2.led = true)
/-- one more -/
def more (l : List Str) (k : Str) : List Str := if k ∈ l then l else k :: l
def once (xs : List Str) : List Str := xs.foldl more []
theorem once_take {xs : List Str} {i : Nat} {k : Str} (h : xs[i]? = some k) : once (xs.take (i + 1)) = more (once (xs.take i)) k := by
  unfold once
  rw [List.take_add_one, List.foldl_append, h]
  rfl
theorem more_len (l : List Str) (k : Str) : (more l k).length ≤ l.length + 1 := by
  unfold more
  split
  · omega
  · exact Nat.le_refl _
theorem fold_len : ∀ (xs l : List Str), (xs.foldl more l).length ≤ l.length + xs.length
  | [], l => Nat.le_refl _
  | k :: r, l => by
    have a := fold_len r (more l k)
    have b := more_len l k
    show (r.foldl more (more l k)).length ≤ _
    rw [List.length_cons]
    omega
theorem once_len (xs : List Str) : (once xs).length ≤ xs.length := by
  have := fold_len xs []
  simpa [once] using this
theorem more_nodup {l : List Str} (h : l.Nodup) (k : Str) : (more l k).Nodup := by
  unfold more
  split
  · exact h
  · rename_i c
    exact List.nodup_cons.mpr ⟨c, h⟩
theorem fold_mem : ∀ (xs l : List Str) (z : Str), z ∈ xs.foldl more l ↔ z ∈ l ∨ z ∈ xs
  | [], l, z => by simp
  | k :: r, l, z => by
    rw [List.foldl_cons, fold_mem r]
    unfold more
    split
    · rename_i c
      constructor
      · rintro (h | h)
        · exact .inl h
        · exact .inr (List.mem_cons_of_mem _ h)
      · rintro (h | h)
        · exact .inl h
        · rcases List.mem_cons.mp h with rfl | h
          · exact .inl c
          · exact .inr h
    · simp only [List.mem_cons]
      constructor
      · rintro ((h | h) | h)
        · exact .inr (.inl h)
        · exact .inl h
        · exact .inr (.inr h)
      · rintro (h | h | h)
        · exact .inl (.inr h)
        · exact .inl (.inl h)
        · exact .inr h
theorem once_mem (xs : List Str) (z : Str) : z ∈ once xs ↔ z ∈ xs := by
  have := fold_mem xs [] z
  simpa [once] using this
theorem fold_nodup : ∀ (xs l : List Str), l.Nodup → (xs.foldl more l).Nodup
  | [], _, h => h
  | k :: r, l, h => fold_nodup r (more l k) (more_nodup h k)
theorem once_nodup (xs : List Str) : (once xs).Nodup := fold_nodup xs [] List.nodup_nil
section
variable {P : Program} {w : World} {A : Around} {E : Value → Shared → Prop} {s : Shared}
theorem TxS.at {h h' : Heap} {a : Addr} {l : List Str} (R : TxS P w h a l) (k : ∀ o, h.get? a = some o → h'.get? a = some o) : TxS P w h' a l := by
  obtain ⟨D, g, rest⟩ := R
  exact ⟨D, k _ g, rest⟩
theorem tail_ris {ep : Nat} {es : Array (Int × Value)} {t : SetTable} {d : Bool} (r : Ris t.place.toList) : Ris (tailTx ep es t d).2.2.place.toList ∧ (tailTx ep es t d).2.2.led = t.led := by
  unfold tailTx
  split
  · exact ⟨relayAll_ris _ _ _, relayAll_led _ _ _⟩
  · exact ⟨r, rfl⟩
theorem add_ris {h : Int} {v : Value} {D : SD} (r : Ris D.2.2.place.toList) : Ris (addTx h v D).2.2.place.toList ∧ (addTx h v D).2.2.led = D.2.2.led := by
  have r1 := layNew_ris D.2.2 D.1 h v r
  have l1 := layNew_led D.2.2 D.1 h v
  unfold addTx
  split
  · obtain ⟨a, b⟩ := tail_ris (ep := D.2.1) (es := (layNew D.2.2 D.1 h v).1) (t := { (layNew D.2.2 D.1 h v).2.1 with plain := false }) (d := (layNew D.2.2 D.1 h v).2.2.1) r1
    exact ⟨a, b.trans l1⟩
  · obtain ⟨a, b⟩ := tail_ris (ep := D.2.1) (es := (layNew D.2.2 D.1 h v).1) (d := (layNew D.2.2 D.1 h v).2.2.1) r1
    exact ⟨a, b.trans l1⟩
/-- a text that is there already: nothing changes -/
theorem keep_x {a : Addr} {D : SD} {l : List Str} {k : Str} {u : Tok} {Q : Bool → Shared → Prop} (ho : s.heap.get? a = some (sObj "set" D)) (F : TxOk P w D l) (hk : k ∈ l) (hb : l.length < scanBound) (h : Q false s) : wpAny (model P w) A (setAddHashed a (.str k u) (hashStr w k)) Q E s := by
  obtain ⟨es, ep, t⟩ := D
  have fd : (sObj "set" (es, ep, t)).data = .set es ep t := rfl
  have ff : t.fits es.size = true := F.fit
  have fe : ElemsOf (strKind P w) es.toList := F.el
  have fz : es.size = l.length := F.sz
  have fb : es.size < scanBound := by omega
  obtain ⟨e, he, hp⟩ := (F.mem k).mp hk
  obtain ⟨j, hj⟩ : ∃ j, List.findIdx? (fun e => (strKind P w).is k e.2) es.toList = some j := by
    cases q : List.findIdx? (fun e => (strKind P w).is k e.2) es.toList with
    | some j => exact ⟨j, rfl⟩
    | none =>
      have z := List.findIdx?_eq_none_iff.mp q e he
      rw [hp] at z
      cases z
  unfold setAddHashed setAddHashedIn
  refine wpAny_holding (wpAny_bind (wpAny_setState_of ho fd ff ?_))
  dsimp only
  rw [byScan_of rfl fb fe]
  simp only [↓reduceIte]
  unfold setAddByScan
  refine wpAny_bind ?_
  refine wpAny_bind (wpAny_rule ?_)
  refine wpAny_bind (wpAny_setScan_of (knd := strKind P w) (k := k) (is_str k u) ho fd ff fe ?_)
  rw [hj]
  exact wpAny_pure (wpAny_pure h)
/-- s.add(k), k in or not -/
theorem add_one {a : Addr} {l : List Str} {k : Str} {u : Tok} {Q : Bool → Shared → Prop} (R : TxS P w s.heap a l) (hb : l.length + 1 < scanBound)
    (h : ∀ b h', (∀ c, c ≠ a → ∀ o, s.heap.get? c = some o → h'.get? c = some o) → TxS P w h' a (more l k) → Q b { s with heap := h', toks := s.toks + 1 }) : wpAny (model P w) A (setAdd a (.str k u)) Q E s := by
  obtain ⟨D, g, F, nd, r, ld⟩ := R
  unfold setAdd
  refine wpAny_holding (wpAny_bind ((strKind P w).pyHash (k := k) (is_str k u) ?_))
  by_cases c : k ∈ l
  · refine keep_x (s := { s with toks := s.toks + 1 }) g F c (by omega) (h false s.heap (fun _ _ _ e => e) ?_)
    unfold more
    rw [if_pos c]
    exact ⟨D, g, F, nd, r, ld⟩
  · obtain ⟨r2, l2⟩ := add_ris (h := hashStr w k) (v := .str k u) r
    refine add_x (s := { s with toks := s.toks + 1 }) g F c hb (h true _ (fun c hc o e => (Heap.get?_update_ne _ _ _ _ hc).trans e) ?_)
    unfold more
    rw [if_neg c]
    exact ⟨_, get_upd _ g rfl, add_ok u F, List.nodup_cons.mpr ⟨c, nd⟩, r2, by rw [l2]; exact ld⟩
end
section
variable {P : Program} {w : World} {A : Around} {R : Result → Shared → Prop} {I : Addr} {fp wr : List Addr} {G : Array GenState → Array GenState → Prop} {n : Nat} {Pv : Nat → Value → Prop} {St : Nat → Shared → Prop}
/-- the loop that fills the set -/
theorem fill (W : WalksS P w A.in1 I fp wr G n Pv St) {S : Addr} (out : S ∉ fp) {xs : List Str} (hn : xs.length = n) (hb : n + 1 < scanBound) (hv : ∀ i v, Pv i v → ∃ k t, xs[i]? = some k ∧ v = .str k t) :
    ∀ (m i : Nat) (s : Shared), i + m = n → St i s → TxS P w s.heap S (once (xs.take i)) → (∀ s', Moved (S :: wr) G s s' → TxS P w s'.heap S (once xs) → R (.ok (.ret .none)) s') →
      codeAny (model P w) A (.builtin "set.update.loop" ⟨[.ref S, .ref I], []⟩) R s := by
  have out2 : S ∉ wr := fun z => out (W.sub _ z)
  have wider : ∀ b ∈ wr, b ∈ S :: wr := fun b z => List.mem_cons_of_mem _ z
  intro m
  induction m with
  | zero =>
    intro i s e st T k
    obtain rfl : i = n := by omega
    rw [← hn, List.take_length] at T
    refine codeAny_builtin PyProof.Rows.F.entry_set_update_loop ?_
    rw [Around.under_plainId PyProof.Rows.F.plain_set_update_loop _]
    exact wpAny_bind (W.done s _ _ st fun s' mv => wpAny_pure (k s' (mv.mono wider) (T.at fun o q => mv.heap S o out2 q)))
  | succ m ih =>
    intro i s e st T k
    refine codeAny_builtin PyProof.Rows.F.entry_set_update_loop ?_
    rw [Around.under_plainId PyProof.Rows.F.plain_set_update_loop _]
    refine wpAny_bind (W.item i s _ _ (by omega) st fun v s1 pv st1 mv => ?_)
    obtain ⟨x, t, hx, rfl⟩ := hv i v pv
    have T1 := T.at fun o q => mv.heap S o out2 q
    have room : (once (xs.take i)).length + 1 < scanBound := by
      have a := once_len (xs.take i)
      have b : (xs.take i).length ≤ i := List.length_take_le i xs
      omega
    refine wpAny_bind (wpAny_holding (add_one (k := x) T1 room fun b h' kp T2 => ?_))
    rw [← once_take hx] at T2
    refine wpAny_pure ⟨plainId_quiet PyProof.Rows.F.plain_set_update_loop _, ih (i + 1) _ (by omega) (W.frame _ s1 _ _ st1 (Nat.le_succ _) fun c hc o q => kp c (fun z => out (z ▸ hc)) o q) T2 fun s2 mv2 T3 => ?_⟩
    exact k s2 (Moved.trans W.gtrans ((mv.mono wider).then_heap (Nat.le_succ _) fun c o hc q => kp c (fun z => hc (z ▸ List.mem_cons_self)) o q) mv2) T3
end
end OwT

namespace OwT
open PySem PySem.Spec PyProof.Rows PySem.Froz L2
def fresh (w : World) : Obj := { cls := .type "set", dict := none, data := .set #[] 0 (.fresh 0 0 (!w.params.followText "set-order")) }
theorem fresh_led (w : World) : w.params.followText "set-order" = true ∨ (SetTable.fresh 0 0 (!w.params.followText "set-order")).led = true := by
  show _ ∨ (!w.params.followText "set-order") = true
  cases w.params.followText "set-order" <;> simp
section
variable {P : Program} {w : World} {A : Around} {E : Value → Shared → Prop} {s : Shared}
theorem new_led (a : Value) {Q₁ : Value → Shared → Prop} (h : Q₁ (.ref s.heap.objs.size) { s with heap := s.heap.push (fresh w) }) : codeAny (model P w) A (.call (.builtin "set.__new__") ⟨[.type "set", a], []⟩) (wants Q₁ E) s := by
  refine codeAny_of_tree (wpAny_bind (wpAny_of_eq (PySem.F.newCall_set_1 a) (wpAny_pure ⟨plainId_quiet PySem.F.plain_set_new _, codeAny_builtin PySem.F.entry_set_new ?_⟩)))
  rw [Around.under_plainId PySem.F.plain_set_new _]; unfold Builtin.«set.__new__» Builtin.Frozenset.newClass
  have hsub := sub_set_self
  obtain ⟨hp, g, d, tk, os⟩ := s; dsimp only
  wp_walk
  refine wpAny_askSetting (wpAny_pure ?_); dsimp only
  simp only [newObj]; exact wpAny_bind (wpAny_alloc (wpAny_pure (wpAny_pure h)))
theorem set_list {l : Addr} {its : Array Value} {xs : List Str} {Q : Value → Shared → Prop} (hh : A.handled = none) (hl : s.heap.IsList l its) (hi : StrsAre its.toList xs) (hb : xs.length + 1 < scanBound)
    (h : ∀ h' tk, TxS P w h' s.heap.objs.size (once xs) → (∀ b o, s.heap.get? b = some o → h'.get? b = some o) → s.heap.objs.size < h'.objs.size → Q (.ref s.heap.objs.size) { s with heap := h', toks := tk }) : wpAny (model P w) A (call (.type "set") [.ref l]) Q E s := by
  obtain ⟨cc, tl, hmro⟩ := PySem.F.called_set.mro
  have hmade := PySem.F.called_set.made; have hsub := PySem.F.called_set.sub; have h1 := PySem.F.called_set.notType; have h2 := PySem.F.called_set.canCreate; have hct := PySem.F.typeCall_set_1 (.ref l)
  refine wpAny_call (codeAny_of_tree (wpAny_pure ⟨Code.quiet_builtin _ (by decide +kernel), codeAny_builtin PySem.F.entry_type_call ?_⟩))
  rw [Around.under_plain (weight_type_call_type "set" [.ref l] []) rfl]
  repeat (any_goals (first | assumption | wp_step))
  refine codeAny_mono (new_led (.ref l) (E := E) (Q₁ := fun o s1 => o = .ref s.heap.objs.size ∧ s1 = { s with heap := s.heap.push (fresh w) }) ⟨rfl, rfl⟩) fun r s1 hr => ?_
  rcases r with er | fl
  · exact hr
  rcases fl with _ | _ | _ | ob
  · exact hr.elim
  · exact hr.elim
  · exact hr.elim
  obtain ⟨rfl, rfl⟩ := hr
  have hS : (s.heap.push (fresh w)).get? s.heap.objs.size = some (fresh w) := Heap.get?_push_size _ rfl
  have hT : Shared.TypeIs { s with heap := s.heap.push (fresh w) } (.ref s.heap.objs.size) "set" := ⟨_, hS, rfl⟩
  have hli := PySem.F.called_set.init.lookup; have hbi := PySem.F.called_set.init.bind (.ref s.heap.objs.size)
  repeat (any_goals (first | assumption | wp_step))
  refine codeAny_mono (codeAny_call_builtin (R := wants (fun r s2 => r = .none ∧ ∃ h' tk, s2 = { s with heap := h', toks := tk } ∧ TxS P w h' s.heap.objs.size (once xs) ∧ (∀ b o, s.heap.get? b = some o → h'.get? b = some o) ∧ s.heap.objs.size < h'.objs.size) E) PySem.F.called_set.init.plain PySem.F.entry_set_init (check_set_init_1 hT ?_)) fun r2 s2 hr2 => ?_
  rotate_left
  · rcases r2 with er | fl2
    · exact hr2
    rcases fl2 with _ | _ | _ | rv
    · exact hr2.elim
    · exact hr2.elim
    · exact hr2.elim
    obtain ⟨rfl, h', tk, rfl, g1, g2, g3⟩ := hr2
    repeat (any_goals (first | assumption | wp_step))
    exact h _ _ g1 g2 g3
  obtain ⟨ol, hol, hcl, nl, hdl⟩ := hl
  have lt : l < s.heap.objs.size := Heap.lt_size hol
  obtain ⟨c1, c2, c3, c4⟩ := ol
  dsimp only at hcl hdl
  subst hcl hdl
  have hol2 : (s.heap.push (fresh w)).get? l = some { cls := .type "list", dict := c2, data := .seq its nl, slots := c4 } := Heap.get?_push_of_some _ hol
  have hq : (s.heap.push (fresh w)).IsList l its := ⟨_, hol2, rfl, nl, rfl⟩
  have hsl1 := PySem.F.sub_list_set; have hsl2 := PySem.F.sub_list_frozenset
  have hne : (Value.type "list" == Value.type "dict") = false := by decide
  unfold Builtin.«set.__init__» noKeywords Builtin.Frozenset.updateFrom; generalize hPI : pyIter = PI
  wp_walk
  subst hPI
  refine wpAny_pyIter_list hq (wpAny_bind (wpAny_runValue ?_))
  have sz1 : (s.heap.push (fresh w)).objs.size = s.heap.objs.size + 1 := Heap.size_push _ _
  have hI : l ≠ (s.heap.push (fresh w)).objs.size := by rw [sz1]; exact Nat.ne_of_lt (Nat.lt_succ_of_lt lt)
  have hout : s.heap.objs.size ∉ [(s.heap.push (fresh w)).objs.size, l] := by rw [sz1]; simp only [List.mem_cons, List.not_mem_nil, or_false, not_or]; exact ⟨Nat.ne_of_lt (Nat.lt_succ_self _), Nat.ne_of_gt lt⟩
  have hz : xs.length = its.size := by rw [← StrsAre.len_eq hi, Array.length_toList]
  have hv : ∀ (i : Nat) (v : Value), its[i]? = some v → ∃ k t, xs[i]? = some k ∧ v = .str k t := fun i v e => by
    obtain ⟨t, e2⟩ := SS.strs_at hi i v (by rw [Array.getElem?_toList]; exact e)
    have lt2 : i < xs.length := by rw [hz]; exact (Array.getElem?_eq_some_iff.mp e).1
    refine ⟨xs[i], t, List.getElem?_eq_getElem lt2, ?_⟩
    rw [e2, List.getD_eq_getElem?_getD, List.getElem?_eq_getElem lt2]
    rfl
  refine fill ((Walks.list (by simp [hh]) _ l hI its).toS) hout hz (by rw [← hz]; exact hb) hv its.size 0 _ (Nat.zero_add _) ⟨⟨_, Heap.get?_push_size _ rfl, rfl, rfl⟩, hq.push _⟩ ?_ ?_
  · exact ⟨(#[], 0, .fresh 0 0 (!w.params.followText "set-order")), Heap.get?_push_of_some _ hS, TxOk.nil rfl, List.nodup_nil, List.Pairwise.nil, fresh_led w⟩
  · intro s3 mv T3
    obtain ⟨h3, g3, d3, t3, o3⟩ := s3
    obtain rfl : g3 = s.gens := mv.gens
    obtain rfl : d3 = s.drawn := mv.drawn
    obtain rfl : o3 = s.os := mv.os
    refine wpAny_pure (wpAny_pure ⟨rfl, h3, t3, rfl, T3, fun b o e => ?_, ?_⟩)
    · have lb := Heap.lt_size e
      refine mv.heap b o (fun z => ?_) (Heap.get?_push_of_some _ (Heap.get?_push_of_some _ e))
      simp only [List.mem_cons, List.not_mem_nil, or_false] at z
      rcases z with z | z
      · exact absurd (z ▸ lb) (Nat.lt_irrefl _)
      · rw [sz1] at z
        have z2 : @Eq Nat b (s.heap.objs.size + 1) := z
        have lb2 : @LT.lt Nat _ b s.heap.objs.size := lb
        omega
    · obtain ⟨D, g, _⟩ := T3
      exact Heap.lt_size g
theorem set_tuple {l : Addr} {its : Array Value} {xs : List Str} {Q : Value → Shared → Prop} (hh : A.handled = none) (hl : s.heap.IsTuple l its) (hi : StrsAre its.toList xs) (hb : xs.length + 1 < scanBound)
    (h : ∀ h' tk, TxS P w h' s.heap.objs.size (once xs) → (∀ b o, s.heap.get? b = some o → h'.get? b = some o) → s.heap.objs.size < h'.objs.size → Q (.ref s.heap.objs.size) { s with heap := h', toks := tk }) : wpAny (model P w) A (call (.type "set") [.ref l]) Q E s := by
  obtain ⟨cc, tl, hmro⟩ := PySem.F.called_set.mro
  have hmade := PySem.F.called_set.made; have hsub := PySem.F.called_set.sub; have h1 := PySem.F.called_set.notType; have h2 := PySem.F.called_set.canCreate; have hct := PySem.F.typeCall_set_1 (.ref l)
  refine wpAny_call (codeAny_of_tree (wpAny_pure ⟨Code.quiet_builtin _ (by decide +kernel), codeAny_builtin PySem.F.entry_type_call ?_⟩))
  rw [Around.under_plain (weight_type_call_type "set" [.ref l] []) rfl]
  repeat (any_goals (first | assumption | wp_step))
  refine codeAny_mono (new_led (.ref l) (E := E) (Q₁ := fun o s1 => o = .ref s.heap.objs.size ∧ s1 = { s with heap := s.heap.push (fresh w) }) ⟨rfl, rfl⟩) fun r s1 hr => ?_
  rcases r with er | fl
  · exact hr
  rcases fl with _ | _ | _ | ob
  · exact hr.elim
  · exact hr.elim
  · exact hr.elim
  obtain ⟨rfl, rfl⟩ := hr
  have hS : (s.heap.push (fresh w)).get? s.heap.objs.size = some (fresh w) := Heap.get?_push_size _ rfl
  have hT : Shared.TypeIs { s with heap := s.heap.push (fresh w) } (.ref s.heap.objs.size) "set" := ⟨_, hS, rfl⟩
  have hli := PySem.F.called_set.init.lookup; have hbi := PySem.F.called_set.init.bind (.ref s.heap.objs.size)
  repeat (any_goals (first | assumption | wp_step))
  refine codeAny_mono (codeAny_call_builtin (R := wants (fun r s2 => r = .none ∧ ∃ h' tk, s2 = { s with heap := h', toks := tk } ∧ TxS P w h' s.heap.objs.size (once xs) ∧ (∀ b o, s.heap.get? b = some o → h'.get? b = some o) ∧ s.heap.objs.size < h'.objs.size) E) PySem.F.called_set.init.plain PySem.F.entry_set_init (check_set_init_1 hT ?_)) fun r2 s2 hr2 => ?_
  rotate_left
  · rcases r2 with er | fl2
    · exact hr2
    rcases fl2 with _ | _ | _ | rv
    · exact hr2.elim
    · exact hr2.elim
    · exact hr2.elim
    obtain ⟨rfl, h', tk, rfl, g1, g2, g3⟩ := hr2
    repeat (any_goals (first | assumption | wp_step))
    exact h _ _ g1 g2 g3
  obtain ⟨ol, hol, hcl, nl, hdl⟩ := hl
  have lt : l < s.heap.objs.size := Heap.lt_size hol
  obtain ⟨c1, c2, c3, c4⟩ := ol
  dsimp only at hcl hdl
  subst hcl hdl
  have hol2 : (s.heap.push (fresh w)).get? l = some { cls := .type "tuple", dict := c2, data := .seq its nl, slots := c4 } := Heap.get?_push_of_some _ hol
  have hq : (s.heap.push (fresh w)).IsTuple l its := ⟨_, hol2, rfl, nl, rfl⟩
  have hsl1 := PySem.F.sub_tuple_set; have hsl2 := PySem.F.sub_tuple_frozenset
  have hne : (Value.type "tuple" == Value.type "dict") = false := by decide
  unfold Builtin.«set.__init__» noKeywords Builtin.Frozenset.updateFrom; generalize hPI : pyIter = PI
  wp_walk
  subst hPI
  refine wpAny_pyIter_tuple hq (wpAny_bind (wpAny_runValue ?_))
  have sz1 : (s.heap.push (fresh w)).objs.size = s.heap.objs.size + 1 := Heap.size_push _ _
  have hI : l ≠ (s.heap.push (fresh w)).objs.size := by rw [sz1]; exact Nat.ne_of_lt (Nat.lt_succ_of_lt lt)
  have hout : s.heap.objs.size ∉ [(s.heap.push (fresh w)).objs.size, l] := by rw [sz1]; simp only [List.mem_cons, List.not_mem_nil, or_false, not_or]; exact ⟨Nat.ne_of_lt (Nat.lt_succ_self _), Nat.ne_of_gt lt⟩
  have hz : xs.length = its.size := by rw [← StrsAre.len_eq hi, Array.length_toList]
  have hv : ∀ (i : Nat) (v : Value), its[i]? = some v → ∃ k t, xs[i]? = some k ∧ v = .str k t := fun i v e => by
    obtain ⟨t, e2⟩ := SS.strs_at hi i v (by rw [Array.getElem?_toList]; exact e)
    have lt2 : i < xs.length := by rw [hz]; exact (Array.getElem?_eq_some_iff.mp e).1
    refine ⟨xs[i], t, List.getElem?_eq_getElem lt2, ?_⟩
    rw [e2, List.getD_eq_getElem?_getD, List.getElem?_eq_getElem lt2]
    rfl
  refine fill ((Walks.tuple (by simp [hh]) _ l hI its).toS) hout hz (by rw [← hz]; exact hb) hv its.size 0 _ (Nat.zero_add _) ⟨⟨_, Heap.get?_push_size _ rfl, rfl, rfl⟩, hq.push _⟩ ?_ ?_
  · exact ⟨(#[], 0, .fresh 0 0 (!w.params.followText "set-order")), Heap.get?_push_of_some _ hS, TxOk.nil rfl, List.nodup_nil, List.Pairwise.nil, fresh_led w⟩
  · intro s3 mv T3
    obtain ⟨h3, g3, d3, t3, o3⟩ := s3
    obtain rfl : g3 = s.gens := mv.gens
    obtain rfl : d3 = s.drawn := mv.drawn
    obtain rfl : o3 = s.os := mv.os
    refine wpAny_pure (wpAny_pure ⟨rfl, h3, t3, rfl, T3, fun b o e => ?_, ?_⟩)
    · have lb := Heap.lt_size e
      refine mv.heap b o (fun z => ?_) (Heap.get?_push_of_some _ (Heap.get?_push_of_some _ e))
      simp only [List.mem_cons, List.not_mem_nil, or_false] at z
      rcases z with z | z
      · exact absurd (z ▸ lb) (Nat.lt_irrefl _)
      · rw [sz1] at z
        have z2 : @Eq Nat b (s.heap.objs.size + 1) := z
        have lb2 : @LT.lt Nat _ b s.heap.objs.size := lb
        omega
    · obtain ⟨D, g, _⟩ := T3
      exact Heap.lt_size g
end
end OwT

namespace OwT
open PySem PySem.Spec PyProof.Rows PySem.Froz L2
/-- the set of the texts l at a -/
def TxO (P : Program) (w : World) (a : Addr) (l : List Str) : HO := .ext fun h => TxS P w h a l
section
variable {X : Cx} {pins : List (Addr × Obj)} {σ : L2.St} {H : Hp} {s : Shared}
theorem txO_ok {P : Program} {w : World} {h : Heap} {a : Addr} {l : List Str} (R : TxS P w h a l) : ObjOk P w H h a (TxO P w a l) := by
  have ⟨D, g, _⟩ := R
  exact ⟨R, ⟨_, g⟩, fun _ _ p k => TxS.at p k⟩
theorem txO_at (I : Inv X pins σ H s) {a : Addr} {l : List Str} (h : H a = some (TxO X.prog X.w a l)) : TxS X.prog X.w s.heap a l := (I.hok a _ h).1
/-- set(xs), a list or a tuple of texts -/
def rSetTx (X : Cx) : List V → Hp → VK → Prop := fun vs H Q => ∃ (a : Addr) (xs : List Str), vs = [.ref a] ∧ (SqL X.K H a (xs.map V.str) ∨ SqT X.K H a (xs.map V.str)) ∧ xs.length ≤ 1000 ∧ ∀ p, H p = none → Q (.ref p) (upd H p (TxO X.prog X.w p (once xs)))
theorem call_setTx (hc : X.calm = true) : CallR X (.type "set") (rSetTx X) := by
  intro pins s σ H vs us Q I r h
  obtain ⟨a, xs, rfl, hs, hz, q⟩ := h
  rw [Vals.ref1 r]
  have room : xs.length + 1 < scanBound := by unfold scanBound; omega
  have fin : ∀ h' tk, TxS X.prog X.w h' s.heap.objs.size (once xs) → (∀ b o, s.heap.get? b = some o → h'.get? b = some o) → s.heap.objs.size < h'.objs.size → EP X pins σ Q (.ref s.heap.objs.size) { s with heap := h', toks := tk } := fun h' tk T k _ =>
    ⟨.ref s.heap.objs.size, _, I.laid (t' := tk) k (Nat.le_refl _) (txO_ok T), rfl, q _ (I.hok.fresh (Nat.le_refl _))⟩
  rcases hs with hs | hs
  · obtain ⟨its, rv, pl, _⟩ := I.list hs
    exact set_list (I.ok.hd hc) pl.isList (by simpa using strsAre_of rv) room fin
  · obtain ⟨its, rv, pl, _⟩ := I.tuple hs
    exact set_tuple (I.ok.hd hc) pl (by simpa using strsAre_of rv) room fin
/-- len of it -/
def rLenTx (X : Cx) : List V → Hp → VK → Prop := fun vs H Q => ∃ (a : Addr) (l : List Str), vs = [.ref a] ∧ H a = some (TxO X.prog X.w a l) ∧ l.length ≤ 1000 ∧ Q (.int l.length) H
theorem call_lenTx : CallR X (.builtin "len") (rLenTx X) := by
  intro pins s σ H vs us Q I r h
  obtain ⟨a, l, rfl, ha, hz, q⟩ := h
  rw [Vals.ref1 r]
  obtain ⟨D, g, F, _⟩ := txO_at I ha
  obtain ⟨es, ep, t⟩ := D
  have z : es.size = l.length := F.sz
  exact call_len_set g ⟨rfl, rfl, rfl⟩ rfl F.fit (by show ((es.size : Nat) : Int) < _; omega) ⟨.int l.length, H, I.tok _, ⟨_, by rw [z]⟩, q⟩
/-- its list, sorted: in some order -/
def rSortTx (X : Cx) : List V → Hp → VK → Prop := fun vs H Q => ∃ (a : Addr) (l : List Str), vs = [.ref a] ∧ H a = some (TxO X.prog X.w a l) ∧ l.length < 64 ∧ ∀ (ys : List Str) p, ys.Perm l → H p = none → Q (.ref p) (upd H p (.lst (ys.map V.str)))
end
theorem perm_of_sub : ∀ {l m : List Str}, l.Nodup → (∀ z, z ∈ l → z ∈ m) → m.length ≤ l.length → m.Perm l
  | [], m, _, _, h => by
    have e : m = [] := List.length_eq_zero_iff.mp (Nat.le_zero.mp h)
    subst e
    exact List.Perm.refl _
  | k :: r, m, nd, sub, h => by
    obtain ⟨nk, nr⟩ := List.nodup_cons.mp nd
    have hk : k ∈ m := sub k List.mem_cons_self
    have p := List.perm_cons_erase hk
    have q := perm_of_sub (l := r) (m := m.erase k) nr (fun z hz => (List.mem_erase_of_ne (fun e : z = k => nk (by rw [← e]; exact hz))).mpr (sub z (List.mem_cons_of_mem _ hz))) (by
      rw [List.length_erase_of_mem hk]
      rw [List.length_cons] at h
      omega)
    exact p.trans (q.cons k)
theorem strsAre_all : ∀ {vs : List Value}, (∀ v ∈ vs, ∃ k t, v = .str k t) → StrsAre vs (vs.map PyProof.Rows.strOf)
  | [], _ => .nil
  | v :: r, h => by
    obtain ⟨k, t, rfl⟩ := h v List.mem_cons_self
    exact .cons k t (strsAre_all fun u hu => h u (List.mem_cons_of_mem _ hu))
section
variable {X : Cx} {pins : List (Addr × Obj)} {σ : L2.St} {H : Hp} {s : Shared}
theorem is_of {P : Program} {w : World} {k : Str} {v : Value} (h : (strKind P w).is k v = true) : ∃ t, v = .str k t := by
  have h' : Value.isStrOf k v = true := h
  cases v <;> simp [Value.isStrOf] at h'
  rename_i y t
  exact ⟨t, by rw [h']⟩
theorem call_sortTx (hc : X.calm = true) : CallR X (.builtin "sorted") (rSortTx X) := by
  intro pins s σ H vs us Q I r h
  obtain ⟨a, l, rfl, ha, h64, q⟩ := h
  rw [Vals.ref1 r]
  obtain ⟨D, g, F, nd, rs, ld⟩ := txO_at I ha
  obtain ⟨es, ep, t⟩ := D
  have z : es.size = l.length := F.sz
  have fb : es.size < scanBound := by unfold scanBound; omega
  refine Calls.call_function_entry kind_sorted plain_sorted entry_sorted (args_sorted1 _) ?_
  unfold Builtin.«sorted»
  refine wpAny_bind (m := checkCount "sorted" 1 1 _) (wpAny_pure (wpAny_bind (collect_set (A := X.A.in1) (I.ok.hd hc) ⟨_, g, rfl, rfl⟩ F.fit fb rs ld fun s1 ws k1 hz g1 o1 pm => ?_)))
  have allS : ∀ v ∈ ws, ∃ k u, v = .str k u := fun v hv => by
    obtain ⟨e, he, ev⟩ := List.mem_map.mp (pm.mem_iff.mp hv)
    obtain ⟨⟨k, hk, _⟩, _⟩ := F.el e he
    obtain ⟨u, hu⟩ := is_of hk
    exact ⟨k, u, ev ▸ hu⟩
  have hS := strsAre_all allS
  have wl : ws.length = l.length := by rw [pm.length_eq, List.length_map, Array.length_toList]; exact z
  have pl : (ws.map PyProof.Rows.strOf).Perm l := perm_of_sub nd (fun k hk => by
    obtain ⟨e, he, hp⟩ := (F.mem k).mp hk
    obtain ⟨u, hu⟩ := is_of hp
    exact List.mem_map.mpr ⟨e.2, pm.mem_iff.mpr (List.mem_map.mpr ⟨e, he, rfl⟩), by rw [hu]; rfl⟩) (by rw [List.length_map, wl]; exact Nat.le_refl _)
  have ll : ws.length < 64 := by rw [wl]; exact h64
  refine wpAny_bind (wpAny_newList ?_ (by rw [sizeLine_eq]; omega))
  have hoL : (s1.heap.push (seqObj "list" ws.toArray 0)).get? s1.heap.objs.size = some (seqObj "list" ws.toArray 0) := Heap.get?_push_size _ rfl
  refine wpAny_bind (wpAny_holding (wpAny_call_entry slot_list_sort ⟨_, hoL, rfl⟩ entry_list_sort (list_sort_treeK strKind_oneLt hoL hS.keysOf (fun v1 v2 rest e => keyKind_strs (by rw [← e]; exact hS)) ll fun st hp hs => ?_) (args_list_sort _)))
  obtain ⟨ys, y1, y2, _⟩ := sorted_out_str hS hp hs
  obtain ⟨c, hcc⟩ := sortedHeap_at (vs := ws) (out := (arrOf st).map (·.2)) hoL
  have hn : H s1.heap.objs.size = none := I.hok.fresh hz
  have yl : (ys.map V.str).length ≤ sizeLine := by rw [List.length_map, y2.length_eq, List.length_map, wl, sizeLine_eq]; omega
  have keep : ∀ b o, s.heap.get? b = some o → (sortedHeap (s1.heap.push (seqObj "list" ws.toArray 0)) s1.heap.objs.size ws ((arrOf st).map (·.2))).get? b = some o := fun b o e => by
    have e1 := k1 b o e
    have lt := Heap.lt_size e1
    rw [sortedHeap_old (Nat.ne_of_lt lt) (by rw [size_push']; exact Nat.lt_succ_of_lt lt)]
    exact Heap.get?_push_of_some _ e1
  obtain ⟨h1, gg, dd, tk, os⟩ := s1
  dsimp only at g1 o1
  subst g1 o1
  have J : Inv X pins σ (upd H h1.objs.size (.lst (ys.map V.str))) { s with heap := sortedHeap (h1.push (seqObj "list" ws.toArray 0)) h1.objs.size ws ((arrOf st).map (·.2)), gens := s.gens, drawn := dd, toks := tk } :=
    I.call (ch := []) (Un.laid keep hz hn) (I.hok.laid keep hz ⟨yl, _, c, vals_of_strs y1, hcc⟩) I.bare (fun _ z => nomatch z)
  exact ⟨_, rfl, wpAny_pure ⟨_, rfl, .ref h1.objs.size, _, J, rfl, q ys _ (y2.trans pl) hn⟩⟩
end
end OwT

/-! Sets whose elements are tuples of texts: an element is sought, put in, the table laid anew. -/
namespace OwP
open PySem PySem.Spec PyProof.Rows L2
section
variable {P : Program} {w : World} {A : Around} {E : Value → Shared → Prop} {s : Shared}
/-- its hash -/
def hs (P : Program) (w : World) (ks : List Str) : Int := tupleKeyHash (strKind P w) ks
/-- at b stands the tuple of these texts -/
def Tp (P : Program) (w : World) (h : Heap) (b : Addr) (ks : List Str) : Prop := IsTupleKey (strKind P w) h ks b
/-- a row of the table -/
def row (P : Program) (w : World) (p : Addr × List Str) : Int × Value := (hs P w p.2, .ref p.1)
theorem Tp.to {h h' : Heap} {b : Addr} {ks : List Str} (T : Tp P w h b ks) (k : ∀ o, h.get? b = some o → o.cls = .type "tuple" → h'.get? b = some o) : Tp P w h' b ks := by
  obtain ⟨o, its, n, g, c, r⟩ := T
  exact ⟨o, its, n, k o g c, c, r⟩
theorem texts_of {ks : List Str} {vs : List Value} (h : ItemsAre (strKind P w) ks vs) : ∀ v ∈ vs, ∃ x t, v = Value.str x t := by
  induction h with
  | nil => exact fun _ hv => nomatch hv
  | cons h1 _ ih =>
    intro v hv
    rcases List.mem_cons.mp hv with rfl | hv
    · obtain ⟨t, e⟩ := OwT.is_of h1
      exact ⟨_, t, e⟩
    · exact ih v hv
/-- a loop over texts that asks each one and goes on -/
theorem loop_texts {β : Type} {f : Value → Option β × PUnit → Sem (ForInStep (Option β × PUnit))} {its : Array Value} (ht : ∀ v ∈ its.toList, ∃ x t, v = Value.str x t) (hf : ∀ x t, f (.str x t) (none, ⟨⟩) = pure (.yield (none, ⟨⟩))) {Q : Option β × PUnit → Shared → Prop} (q : Q (none, ⟨⟩) s) :
    wpAny (model P w) A (forIn its (none, ⟨⟩) f) Q E s := by
  rw [← Array.forIn_toList]
  refine wpAny_forIn_list f (fun l b s' => (∀ v ∈ l, ∃ x t, v = Value.str x t) ∧ b = (none, ⟨⟩) ∧ s' = s) Q (fun v l b s' hI => ?_) (fun b s' hI => ?_) its.toList _ ⟨ht, rfl, rfl⟩
  · obtain ⟨hl, rfl, rfl⟩ := hI
    obtain ⟨x, t, rfl⟩ := hl v List.mem_cons_self
    rw [hf]
    exact wpAny_pure ⟨fun u hu => hl u (List.mem_cons_of_mem _ hu), rfl, rfl⟩
  · obtain ⟨_, rfl, rfl⟩ := hI
    exact q
theorem class_txt (n : Nat) (x : Str) (t : Tok) : ofAClassStatement n (.str x t) = pure false := by cases n <;> rfl
theorem value_txt (n : Nat) (x : Str) (t : Tok) : hashByValue n (.str x t) = pure false := hashByValue_scannable n rfl
/-- a loop over texts that may end at any of them, and changes nothing -/
theorem loop_any {β : Type} {f : Value → β → Sem (ForInStep β)} {its : Array Value} (ht : ∀ v ∈ its.toList, ∃ x t, v = Value.str x t) (hf : ∀ x t b, ∃ r, f (.str x t) b = pure r) {b0 : β} {Q : β → Shared → Prop} (q : ∀ b, Q b s) :
    wpAny (model P w) A (forIn its b0 f) Q E s := by
  rw [← Array.forIn_toList]
  refine wpAny_forIn_list f (fun l _ s' => (∀ v ∈ l, ∃ x t, v = Value.str x t) ∧ s' = s) Q (fun v l b s' hI => ?_) (fun b s' hI => ?_) its.toList _ ⟨ht, rfl⟩
  · obtain ⟨hl, rfl⟩ := hI
    obtain ⟨x, t, rfl⟩ := hl v List.mem_cons_self
    obtain ⟨r, e⟩ := hf x t b
    rw [e]
    refine wpAny_pure ?_
    cases r with
    | yield b' => exact ⟨fun u hu => hl u (List.mem_cons_of_mem _ hu), rfl⟩
    | done b' => exact q b'
  · obtain ⟨_, rfl⟩ := hI
    exact q b
theorem class_tp {b : Addr} {ks : List Str} {Q : Bool → Shared → Prop} (T : Tp P w s.heap b ks) (q : Q false s) : wpAny (model P w) A (ofAClassStatement 8 (.ref b)) Q E s := by
  have ty := IsTupleKey.typeIs T
  obtain ⟨o, its, n, g, _, dt, it⟩ := T
  unfold ofAClassStatement
  refine wpAny_bind (wpAny_typeOf ty ?_)
  have e : (("tuple" : String) == "tuple") = true := rfl
  simp only [e, if_true, Bool.not_true, Bool.false_eq_true, if_false]
  show wpAny _ _ (seqItems? (.ref b) >>= _) _ _ s
  refine wpAny_bind (wpAny_seqItems g dt (wpAny_bind ?_))
  refine loop_texts (texts_of it) (fun x t => ?_) (wpAny_pure q)
  rw [class_txt]
  rfl
theorem value_tp {b : Addr} {ks : List Str} {Q : Bool → Shared → Prop} (T : Tp P w s.heap b ks) (q : ∀ c, Q c s) : wpAny (model P w) A (hashByValue 8 (.ref b)) Q E s := by
  have ty := IsTupleKey.typeIs T
  obtain ⟨o, its, n, g, _, dt, it⟩ := T
  unfold hashByValue
  refine wpAny_bind (wpAny_specialOf ty F.slot_tuple_hash.lookup ?_)
  show wpAny _ _ (seqItems? (.ref b) >>= _) _ _ s
  refine wpAny_bind (wpAny_seqItems g dt (wpAny_bind ?_))
  refine loop_any (texts_of it) (fun x t c => ?_) (fun c => ?_)
  · rw [value_txt]
    exact ⟨_, rfl⟩
  · obtain ⟨r, u⟩ := c
    cases r with
    | none => exact wpAny_pure (q _)
    | some r => exact wpAny_pure (q _)
/-- nobody sees the search -/
theorem quiet_tp {b : Addr} {ks : List Str} {ys : List Value} {Q : Bool → Shared → Prop} (T : Tp P w s.heap b ks) (hy : ∀ y ∈ ys, ∃ c ls, y = Value.ref c ∧ Tp P w s.heap c ls) (q : Q false s) : wpAny (model P w) A (searchCouldBeSeen (.ref b) ys) Q E s := by
  unfold searchCouldBeSeen
  refine wpAny_bind (wpAny_forIn_list _ (fun l r s' => (∀ y ∈ l, ∃ c ls, y = Value.ref c ∧ Tp P w s.heap c ls) ∧ r.1 = none ∧ s' = s) _ (fun v l r s' hI => ?_) (fun r s' hI => ?_) ys _ ⟨hy, rfl, rfl⟩)
  · obtain ⟨hl, r0, rfl⟩ := hI
    obtain ⟨c, ls, rfl, Tc⟩ := hl v List.mem_cons_self
    have hl2 : ∀ y ∈ l, ∃ c ls, y = Value.ref c ∧ Tp P w s'.heap c ls := fun u hu => hl u (List.mem_cons_of_mem _ hu)
    dsimp only
    split
    · exact wpAny_pure ⟨hl2, rfl, rfl⟩
    · refine wpAny_bind (wpAny_eqIsQuiet_tuple T ?_)
      refine wp_if_neg (by decide) (wpAny_bind (wpAny_eqIsQuiet_tuple Tc ?_))
      refine wp_if_neg (by decide) (wpAny_bind (class_tp T ?_))
      refine wp_if_neg (by decide) (wpAny_bind (class_tp Tc ?_))
      exact wp_if_neg (by decide) (wpAny_pure ⟨hl2, rfl, rfl⟩)
  · obtain ⟨_, r0, rfl⟩ := hI
    obtain ⟨r1, r2⟩ := r
    dsimp only at r0
    subst r0
    exact wpAny_pure q
end
end OwP

namespace OwP
open PySem PySem.Spec PyProof.Rows L2
/-- the set at S has just these tuples, told by their addresses and texts -/
structure Bag (P : Program) (w : World) (h : Heap) (S : Addr) (L : List (Addr × List Str)) (es : Array (Int × Value)) (ep : Nat) (t : SetTable) : Prop where
  ob : ∃ o, h.get? S = some o ∧ o.ExactSet ∧ o.data = .set es ep t
  rw : es.toList = L.map (row P w)
  tb : TabOk t (L.map fun p => hs P w p.2)
  dis : (L.map (·.2)).Nodup
  tp : ∀ p ∈ L, Tp P w h p.1 p.2
  ld : w.params.followText "set-order" = true ∨ t.led = true
  sp : L.length * 5 < t.mask * 3
  sm : L.length < 64
section
variable {P : Program} {w : World} {A : Around} {E : Value → Shared → Prop} {s : Shared} {S x : Addr} {L : List (Addr × List Str)} {es : Array (Int × Value)} {ep : Nat} {t : SetTable} {ks : List Str}
theorem Bag.num {h : Heap} (B : Bag P w h S L es ep t) : es.size = L.length := by
  rw [← Array.length_toList, B.rw, List.length_map]
theorem Bag.fit {h : Heap} (B : Bag P w h S L es ep t) : t.fits es.size = true := by
  have a := B.tb.sz
  have b := B.num
  have c := B.sp
  rw [List.length_map] at a
  simp only [SetTable.fits, SetTable.fill, B.tb.dm, Bool.and_eq_true, beq_iff_eq, decide_eq_true_eq]
  show t.place.size = es.size ∧ t.place.size + 0 ≤ t.mask
  omega
theorem Bag.stay {h : Heap} (B : Bag P w h S L es ep t) : ¬ t.gaveWay = true := by
  simp only [SetTable.gaveWay, mask_odd B.tb.mok]
  decide
theorem Bag.at {h : Heap} (B : Bag P w h S L es ep t) {i : Nat} {p : Addr × List Str} (e : L[i]? = some p) : es[i]? = some (row P w p) := by
  rw [← Array.getElem?_toList, B.rw, List.getElem?_map, e]
  rfl
/-- where the i-th one lies is its i-th place -/
theorem Bag.lies {h : Heap} (B : Bag P w h S L es ep t) {i j : Nat} (e : t.place.toList[i]? = some j) : ∃ p, L[i]? = some p := by
  have a := (List.getElem?_eq_some_iff.mp e).1
  have b := B.tb.sz
  rw [List.length_map] at b
  rw [Array.length_toList, b] at a
  exact ⟨_, List.getElem?_eq_getElem a⟩
abbrev st0 (t : SetTable) (g : Int) : SetTable.Probe := runAt t.mask (SetTable.bits g % (t.mask + 1)) (SetTable.bits g)
theorem no_dummy (m : Nat) : ∀ (n : Nat) (p : SetTable.Probe), p.dummy = none → (nth m p n).dummy = none
  | 0, _, e => e
  | n + 1, p, e => no_dummy m n (adv m p) (by unfold adv; split <;> exact e)
/-- from the c-th step of its way on -/
theorem look (B : Bag P w s.heap S L es ep t) (T : Tp P w s.heap x ks) (hu : A.units < cLine) {K : Nat} (far : K < 10 * SetTable.turns t.mask) (gap : way t.mask (hs P w ks) K ∉ t.place.toList) (full : ∀ c, c < K → way t.mask (hs P w ks) c ∈ t.place.toList) {Q : SetFound → Shared → Prop}
    (yes : ks ∈ L.map (·.2) → Q (.there none) s) (no : ks ∉ L.map (·.2) → Q (.free (way t.mask (hs P w ks) K) false) s) :
    ∀ (f c : Nat) (st : Option SetTable.Probe), st.getD (t.probeStart (hs P w ks)) = nth t.mask (st0 t (hs P w ks)) c → c ≤ K → K < c + f → (∀ (i : Nat) (p : Addr × List Str), L[i]? = some p → p.2 = ks → ∃ d, c ≤ d ∧ d < K ∧ t.place.toList[i]? = some (way t.mask (hs P w ks) d)) →
      wpAny (model P w) A (setSearchFrom S (.ref x) (hs P w ks) true f st) Q E s := by
  obtain ⟨o, go, xo, dt⟩ := B.ob
  intro f
  induction f with
  | zero => intro c st _ h1 h2; omega
  | succ f ih =>
    intro c st hst h1 h2 left
    generalize hg : hs P w ks = g at far gap full no hst left ih ⊢
    have step : ∀ q, nth t.mask (nth t.mask (st0 t g) c) q = nth t.mask (st0 t g) (c + q) := fun q => (nth_add t.mask c _ q).symm
    have stepj : ∀ q, (nth t.mask (nth t.mask (st0 t g) c) q).j = way t.mask g (c + q) := fun q => congrArg SetTable.Probe.j (step q)
    have rowh : ∀ (i : Nat) (p : Addr × List Str), L[i]? = some p → (es[i]?.map (fun z : Int × Value => z.1)).getD 0 = hs P w p.2 := fun i p e => by
      rw [B.at e]
      rfl
    rw [setSearchFrom_succ]
    refine wpAny_bind (wpAny_setState_of go dt B.fit ?_)
    refine wp_if_neg B.stay ?_
    try refine wpAny_bind (wpAny_pure ?_)
    have probe : t.probe (fun i => (es[i]?.map (·.1)).getD 0) g (st.getD (t.probeStart g)) = SetTable.probe.go t (fun i => (es[i]?.map (·.1)).getD 0) g (10 * SetTable.turns t.mask) (nth t.mask (st0 t g) c) := by
      rw [hst]
      rfl
    rcases go_spec t B.tb.ris B.tb.dm (fun i => (es[i]?.map (·.1)).getD 0) g (10 * SetTable.turns t.mask) (K - c) (nth t.mask (st0 t g) c) (no_dummy _ _ _ rfl) (by omega) (fun q hq => by
        rw [stepj]
        exact full _ (by omega)) (by rw [stepj, Nat.add_sub_cancel' h1]; exact gap) with ⟨q, i, lt, lie, eh, fst, e⟩ | ⟨none', e⟩
    · rw [stepj] at lie e
      rw [step] at e
      obtain ⟨p, hp⟩ := B.lies lie
      have pm : p ∈ L := List.mem_of_getElem? hp
      have rest : wpAny (model P w) A (searchRest S (.ref x) g true f es t (way t.mask g (c + q)) i (nth t.mask (st0 t g) (c + (q + 1)))) Q E s := by
        have live := slot_live B.tb.ris lie
        unfold searchRest
        rw [B.at hp]
        refine wpAny_bind (wpAny_holding (wpAny_eqBool_tuple hu (B.tp p pm) T ?_))
        refine wpAny_bind (wpAny_setState_of go dt B.fit ?_)
        by_cases same : p.2 = ks
        · exact wp_if_pos (by simp [same]) (wpAny_pure (yes (List.mem_map.mpr ⟨p, pm, same⟩)))
        · refine wp_if_neg (by simp [same]) ?_
          try refine wpAny_bind (wpAny_pure ?_)
          rw [sameMem]
          simp only [if_true, live, B.at hp, row]
          refine wpAny_bind (wpAny_isSame_ref_self (wpAny_bind (wpAny_pure ?_)))
          simp only [if_true]
          refine wp_if_neg (by simp [same]) (ih (c + (q + 1)) _ rfl (by omega) (by omega) fun i2 p2 e2 same2 => ?_)
          obtain ⟨d, d1, d2, d3⟩ := left i2 p2 e2 same2
          refine ⟨d, ?_, d2, d3⟩
          refine Decidable.byContradiction fun small => ?_
          have hh : (es[i2]?.map (·.1)).getD 0 = g := by rw [rowh i2 p2 e2, same2, hg]
          rcases Nat.lt_or_ge d (c + q) with z | z
          · exact fst (d - c) i2 (by omega) (by rw [stepj, Nat.add_sub_cancel' d1]; exact d3) hh
          · have ed : d = c + q := by omega
            rw [ed] at d3
            have live2 := slot_live B.tb.ris d3
            rw [live] at live2
            injection live2 with ei
            rw [← ei, hp] at e2
            exact same ((congrArg Prod.snd (Option.some.inj e2)).trans same2)
      have e3 : t.probe (fun i => (es[i]?.map (·.1)).getD 0) g (st.getD (t.probeStart g)) = some (.candidate (way t.mask g (c + q)) i (nth t.mask (st0 t g) (c + (q + 1)))) := probe.trans e
      simp only [e3]
      by_cases led : t.led = true
      · refine wp_if_neg (by simp [led]) ?_
        try refine wpAny_bind (wpAny_pure ?_)
        exact rest
      · refine wp_if_pos (by simp [led]) (wpAny_bind (quiet_tp T (fun y hy => ?_) ?_))
        · obtain ⟨u, hu1, rfl⟩ := List.mem_map.mp hy
          have hu2 : u ∈ es.toList := by
            have z := Array.mem_toList_iff.mp hu1
            exact Array.mem_toList_iff.mpr (Array.mem_filter.mp z).1
          rw [B.rw] at hu2
          obtain ⟨p2, hp2, rfl⟩ := List.mem_map.mp hu2
          exact ⟨p2.1, p2.2, rfl, B.tp p2 hp2⟩
        · refine wp_if_neg (by decide) ?_
          try refine wpAny_bind (wpAny_pure ?_)
          exact rest
    · rw [stepj, Nat.add_sub_cancel' h1] at e
      have e3 : t.probe (fun i => (es[i]?.map (·.1)).getD 0) g (st.getD (t.probeStart g)) = some (.empty (way t.mask g K) none) := probe.trans e
      simp only [e3]
      refine wpAny_pure (no fun hm => ?_)
      obtain ⟨p, pm, same⟩ := List.mem_map.mp hm
      obtain ⟨i, hi, rfl⟩ := List.getElem_of_mem pm
      have ei := List.getElem?_eq_getElem hi
      obtain ⟨d, d1, d2, d3⟩ := left i _ ei same
      exact none' (d - c) i (by omega) (by rw [stepj, Nat.add_sub_cancel' d1]; exact d3) (by show (es[i]?.map (·.1)).getD 0 = g; rw [rowh i _ ei, same, hg])
end
end OwP

namespace OwP
open PySem PySem.Spec PyProof.Rows L2
theorem perm_unmap {α β : Type} (f : α → β) {xs ys : List β} (p : xs.Perm ys) : ∀ l : List α, ys = l.map f → ∃ m : List α, xs = m.map f ∧ m.Perm l := by
  induction p with
  | nil =>
    intro l e
    have l0 : l = [] := List.map_eq_nil_iff.mp e.symm
    exact ⟨[], rfl, l0 ▸ List.Perm.refl _⟩
  | cons x _ ih =>
    intro l e
    cases l with
    | nil => cases e
    | cons a r =>
      injection e with e1 e2
      obtain ⟨m, hm, pm⟩ := ih r e2
      exact ⟨a :: m, by rw [List.map_cons, hm, e1], pm.cons a⟩
  | swap x y _ =>
    intro l e
    match l, e with
    | a :: b :: r, e =>
      injection e with e1 e2
      injection e2 with e2 e3
      exact ⟨b :: a :: r, by rw [List.map_cons, List.map_cons, e1, e2, e3], List.Perm.swap _ _ _⟩
  | trans _ _ ih1 ih2 =>
    intro l e
    obtain ⟨m, hm, pm⟩ := ih2 l e
    obtain ⟨n, hn, pn⟩ := ih1 m hm
    exact ⟨n, hn, pn.trans pm⟩
theorem all_of {α : Type} : ∀ l : List α, (List.range l.length).filterMap (fun i => l[i]?) = l
  | [] => rfl
  | a :: r => by
    rw [List.length_cons, List.range_succ_eq_map, List.filterMap_cons]
    show a :: List.filterMap (fun i => (a :: r)[i]?) (List.map Nat.succ (List.range r.length)) = a :: r
    rw [List.filterMap_map]
    have e : ((fun i => (a :: r)[i]?) ∘ Nat.succ) = fun i => r[i]? := by
      funext i
      rfl
    rw [e, all_of r]
theorem some_of {α γ : Type} (es : Array α) (g : α → γ) (d : γ) : ∀ l : List Nat, (∀ i ∈ l, i < es.size) → (l.filterMap fun i => es[i]?).map g = l.map fun i => (es.map g).getD i d
  | [], _ => rfl
  | i :: r, h => by
    have hi := h i List.mem_cons_self
    have e1 : es[i]? = some es[i] := Array.getElem?_eq_getElem hi
    rw [List.filterMap_cons_some e1, List.map_cons, List.map_cons, some_of es g d r fun j hj => h j (List.mem_cons_of_mem _ hj)]
    congr 1
    simp [Array.getD_eq_getD_getElem?, hi]
theorem tab_plain {t : SetTable} {hs : List Int} (T : TabOk t hs) (b : Bool) : TabOk { t with plain := b } hs := ⟨T.ris, T.dm, T.sz, T.mok, T.bd, T.reach⟩
section
variable {P : Program} {w : World} {A : Around} {E : Value → Shared → Prop} {s : Shared} {S x : Addr} {L : List (Addr × List Str)} {es : Array (Int × Value)} {ep : Nat} {t : SetTable} {ks : List Str}
theorem seek (B : Bag P w s.heap S L es ep t) (T : Tp P w s.heap x ks) (hu : A.units < cLine) {Q : SetFound → Shared → Prop} (yes : ks ∈ L.map (·.2) → Q (.there none) s)
    (no : ∀ K, ks ∉ L.map (·.2) → way t.mask (hs P w ks) K ∉ t.place.toList → (∀ c, c < K → way t.mask (hs P w ks) c ∈ t.place.toList) → Q (.free (way t.mask (hs P w ks) K) false) s) :
    wpAny (model P w) A (setSearch S (.ref x) (hs P w ks) true) Q E s := by
  have sp := B.sp
  obtain ⟨K, far, gap, full⟩ := B.tb.first (by rw [List.length_map]; omega) (hs P w ks)
  have bound : 10 * SetTable.turns t.mask < 100000 := by rcases B.tb.mok with e | e | e <;> rw [e] <;> decide
  unfold setSearch
  refine look B T hu far gap full yes (fun n => no K n gap full) 100000 0 none rfl (Nat.zero_le _) (by omega) fun i p e same => ?_
  have hi : (L.map fun p => hs P w p.2)[i]? = some (hs P w ks) := by
    rw [List.getElem?_map, e, ← same]
    rfl
  have lt : i < t.place.toList.length := by
    rw [Array.length_toList, B.tb.sz]
    exact (List.getElem?_eq_some_iff.mp hi).1
  have hj := List.getElem?_eq_getElem lt
  obtain ⟨d, hd, ed⟩ := B.tb.before gap hi hj
  exact ⟨d, Nat.zero_le _, hd, by rw [hj, ed]⟩
theorem Tp.past {h h' : Heap} {b : Addr} {o : Obj} (T : Tp P w h b ks) (go : h.get? S = some o) (dt : o.data = .set es ep t) (sb : Heap.SameBut S h h') : Tp P w h' b ks := T.to fun o' g c => by
  refine (sb.2 b fun e => ?_).trans g
  obtain ⟨o2, its, n, g2, _, d2, _⟩ := T
  rw [e, go] at g2
  cases g2
  rw [dt] at d2
  cases d2
/-- the table laid anew -/
theorem relay {o : Obj} (go : s.heap.get? S = some o) (xo : o.ExactSet) (dt : o.data = .set es ep t) (rows : es.toList = L.map (row P w)) (sz : t.place.size = es.size) (dm : t.dummies = #[]) (fl : es.size ≤ t.mask) (dis : (L.map (·.2)).Nodup) (tp : ∀ p ∈ L, Tp P w s.heap p.1 p.2)
    (ld : w.params.followText "set-order" = true ∨ t.led = true) (sm : L.length < 64) {wanted M : Nat} (hw : SetTable.sizeAbove wanted - 1 = M) (hM : MaskOk M) (small : SetTable.sizeAbove wanted ≤ 128) (room : L.length * 5 < M * 3) {Q : Unit → Shared → Prop}
    (q : ∀ h' L' es' ep' t', Heap.SameBut S s.heap h' → Bag P w h' S L' es' ep' t' → L'.Perm L → Q () { s with heap := h' }) : wpAny (model P w) A (setRelay S wanted) Q E s := by
  have num : es.size = L.length := by rw [← Array.length_toList, rows, List.length_map]
  have fit : t.fits es.size = true := by
    simp only [SetTable.fits, SetTable.fill, dm, Bool.and_eq_true, beq_iff_eq, decide_eq_true_eq]
    show t.place.size = es.size ∧ t.place.size + 0 ≤ t.mask
    omega
  obtain ⟨t', order, e, po, T, em, el, _, _⟩ := relaid_ok t (hs := es.map (·.1)) hw hM (by rw [Array.size_map]; omega)
  rw [Array.size_map] at po
  have new : (order.filterMap (es[·]?)).toList = order.toList.filterMap fun i => es[i]? := by rw [Array.toList_filterMap]
  have pn : (order.filterMap (es[·]?)).toList.Perm es.toList := by
    rw [new]
    have z := po.filterMap fun i => es[i]?
    have z2 : (List.range es.size).filterMap (fun i => es[i]?) = es.toList := by
      have y := all_of es.toList
      rw [Array.length_toList] at y
      rw [← y]
      congr 1
      funext i
      rw [Array.getElem?_toList]
    rw [z2] at z
    exact z
  obtain ⟨L', rows', pl⟩ := perm_unmap (row P w) (rows ▸ pn) L rfl
  have hashes : (order.toList.map fun i => (es.map (·.1)).getD i 0) = L'.map fun p => hs P w p.2 := by
    rw [← some_of es (·.1) 0 order.toList fun i hi => List.mem_range.mp (po.mem_iff.mp hi), ← new, rows', List.map_map]
    rfl
  rw [hashes] at T
  have ns : (order.filterMap (es[·]?)).size = es.size := by rw [← Array.length_toList, pn.length_eq, Array.length_toList]
  rw [setRelay_eq]
  refine wpAny_bind (wpAny_setState_of go dt fit ?_)
  refine wp_if_neg (by rw [sizeLine_eq]; omega) ?_
  try refine wpAny_bind (wpAny_pure ?_)
  simp only [e]
  refine wpAny_bind (wp_if_neg (by rw [ns]; simp) ?_)
  try refine wpAny_bind (wpAny_pure ?_)
  refine wpAny_pure (wpAny_storeSet_of go dt ?_ (by rw [ns, num, sizeLine_eq]; omega))
  have sb : Heap.SameBut S s.heap (s.heap.update S (Obj.putSet (order.filterMap (es[·]?)) t')) := Heap.SameBut.update ..
  exact q _ L' _ (ep + 1) t' sb ⟨⟨_, store_at go dt, ⟨xo.1, xo.2.1, xo.2.2⟩, rfl⟩, rows', T, (pl.map (·.2)).nodup_iff.mpr dis, fun p hp => (tp p (pl.mem_iff.mp hp)).past go dt sb, by rw [el]; exact ld, by rw [pl.length_eq, em]; exact room, by rw [pl.length_eq]; exact sm⟩ pl
theorem ask_plain {b : Bool} (T : Tp P w s.heap x ks) {Q : Bool → Shared → Prop} (q : ∀ c, Q c s) : wpAny (model P w) A (if b = true then hashByValue 8 (.ref x) else pure true) Q E s := by
  split
  · exact value_tp T q
  · exact wpAny_pure (q true)
end
end OwP

namespace OwP
open PySem PySem.Spec PyProof.Rows L2
section
variable {P : Program} {w : World} {A : Around} {E : Value → Shared → Prop} {s : Shared} {S x : Addr} {L : List (Addr × List Str)} {es : Array (Int × Value)} {ep : Nat} {t : SetTable} {ks : List Str}
/-- the row is laid; the table grows where it is too full -/
theorem lay_row (B : Bag P w s.heap S L es ep t) (T : Tp P w s.heap x ks) (sm : L.length + 1 < 64) {o : Obj} (go : s.heap.get? S = some o) (xo : o.ExactSet) (dt : o.data = .set es ep t) (new : ks ∉ L.map (·.2)) {at' : Nat} {t2 : SetTable} (T2 : TabOk t2 ((L.map fun p => hs P w p.2).take at' ++ hs P w ks :: (L.map fun p => hs P w p.2).drop at')) (m2 : t2.mask = t.mask) (l2 : t2.led = t.led) (f2 : t2.fill = L.length + 1)
    {Q : Bool → Shared → Prop} (q : ∀ b h' L' es' ep' t', Heap.SameBut S s.heap h' → Bag P w h' S L' es' ep' t' → (ks ∈ L.map (·.2) → L' = L) → (ks ∉ L.map (·.2) → L'.Perm ((x, ks) :: L)) → Q b { s with heap := h' }) :
    wpAny (model P w) A (do
      storeSet S (SetTable.insertAt es at' (hs P w ks, .ref x)) t2
      if !false && t2.tooFull then setRelay S (SetTable.grown (es.size + 1))
      return true) Q E s := by
  have num := B.num
  have sp := B.sp
  have mapd : ∀ f : Addr × List Str → Int, (L.take at' ++ (x, ks) :: L.drop at').map f = (L.map f).take at' ++ f (x, ks) :: (L.map f).drop at' := fun f => by rw [List.map_append, List.map_cons, List.map_take, List.map_drop]
  have T3 : TabOk t2 ((L.take at' ++ (x, ks) :: L.drop at').map fun p => hs P w p.2) := by
    rw [mapd fun p => hs P w p.2]
    exact T2
  have rows : (SetTable.insertAt es at' (hs P w ks, .ref x)).toList = (L.take at' ++ (x, ks) :: L.drop at').map (row P w) := by
    rw [SetTable.toList_insertAt, B.rw, List.map_append, List.map_cons, List.map_take, List.map_drop]
    rfl
  have pm := put_perm L at' (x, ks)
  have num2 : (SetTable.insertAt es at' (hs P w ks, Value.ref x)).size = L.length + 1 := by
    rw [← Array.length_toList, rows, List.length_map, pm.length_eq]
    rfl
  have dis2 : ((L.take at' ++ (x, ks) :: L.drop at').map (·.2)).Nodup := (pm.map (·.2)).nodup_iff.mpr (by
    rw [List.map_cons]
    exact List.nodup_cons.mpr ⟨new, B.dis⟩)
  have len2 : (L.take at' ++ (x, ks) :: L.drop at').length = L.length + 1 := pm.length_eq
  generalize SetTable.insertAt es at' (hs P w ks, Value.ref x) = es2 at rows num2 ⊢
  generalize L.take at' ++ (x, ks) :: L.drop at' = L2 at T3 rows pm dis2 len2
  refine wpAny_bind (wpAny_storeSet_of go dt ?_ (by rw [num2, sizeLine_eq]; omega))
  have sb : Heap.SameBut S s.heap (s.heap.update S (Obj.putSet es2 t2)) := Heap.SameBut.update ..
  have go2 := store_at (es' := es2) (t' := t2) go dt
  have tp2 : ∀ p ∈ L2, Tp P w (s.heap.update S (Obj.putSet es2 t2)) p.1 p.2 := fun p hp => by
    rcases List.mem_cons.mp (pm.mem_iff.mp hp) with rfl | hp
    · exact T.past go dt sb
    · exact (B.tp p hp).past go dt sb
  generalize s.heap.update S (Obj.putSet es2 t2) = h2 at sb go2 tp2 ⊢
  have ld2 : w.params.followText "set-order" = true ∨ t2.led = true := by rw [l2]; exact B.ld
  by_cases tf : t2.tooFull = true
  · have much : (L.length + 1) * 5 ≥ t.mask * 3 := by
      have z := tf
      simp only [SetTable.tooFull, decide_eq_true_eq, f2, m2] at z
      exact z
    have sz2 : t2.place.size = es2.size := by
      have z := T3.sz
      rw [List.length_map, len2] at z
      rw [z, num2]
    have two : (t.mask = 7 ∧ L.length = 4) ∨ (t.mask = 31 ∧ L.length = 18) := by
      rcases B.tb.mok with e | e | e <;> rw [e] at much sp
      · exact Or.inl ⟨e, by omega⟩
      · exact Or.inr ⟨e, by omega⟩
      · omega
    have laid : ∀ M, SetTable.sizeAbove (SetTable.grown (L.length + 1)) - 1 = M → MaskOk M → SetTable.sizeAbove (SetTable.grown (L.length + 1)) ≤ 128 → (L.length + 1) * 5 < M * 3 →
        wpAny (model P w) A (setRelay S (SetTable.grown (es.size + 1))) (fun _ s' => wpAny (model P w) A (pure true) Q E s') E { s with heap := h2 } := fun M a1 a2 a3 a4 => by
      rw [num]
      exact relay (s := { s with heap := h2 }) go2 ⟨xo.1, xo.2.1, xo.2.2⟩ rfl rows sz2 T3.dm (by rw [num2, m2]; rcases two with ⟨e, _⟩ | ⟨e, _⟩ <;> omega) dis2 tp2 ld2 (by omega) a1 a2 a3 (by omega) fun h3 L3 es3 ep3 t3 sb3 B3 pm3 => wpAny_pure (q true h3 L3 es3 ep3 t3 (sb.trans sb3) B3 (fun z => absurd z new) fun _ => pm3.trans pm)
    first
      | refine wp_if_pos (by simp [tf]) (wpAny_bind ?_)
      | refine wpAny_bind (wp_if_pos (by simp [tf]) ?_)
    rcases two with ⟨_, e⟩ | ⟨_, e⟩
    · exact laid 31 (by rw [e, size_20]) (.inr (.inl rfl)) (by rw [e, size_20]; decide) (by omega)
    · exact laid 127 (by rw [e, size_76]) (.inr (.inr rfl)) (by rw [e, size_76]; decide) (by omega)
  · have few : (L.length + 1) * 5 < t.mask * 3 := by
      have z := tf
      simp only [SetTable.tooFull, decide_eq_true_eq, f2, m2] at z
      omega
    have fin : wpAny (model P w) A (pure true) Q E { s with heap := h2 } := wpAny_pure (q true h2 L2 es2 (ep + 1) t2 sb ⟨⟨_, go2, ⟨xo.1, xo.2.1, xo.2.2⟩, rfl⟩, rows, T3, dis2, tp2, ld2, by rw [len2, m2]; exact few, by omega⟩ (fun z => absurd z new) fun _ => pm)
    first
      | exact wp_if_neg (by simp [tf]) fin
      | exact wpAny_bind (wp_if_neg (by simp [tf]) (wpAny_pure fin))
/-- a tuple is put in -/
theorem put_in (B : Bag P w s.heap S L es ep t) (T : Tp P w s.heap x ks) (hu : A.units < cLine) (sm : L.length + 1 < 64) {Q : Bool → Shared → Prop}
    (q : ∀ b h' L' es' ep' t', Heap.SameBut S s.heap h' → Bag P w h' S L' es' ep' t' → (ks ∈ L.map (·.2) → L' = L) → (ks ∉ L.map (·.2) → L'.Perm ((x, ks) :: L)) → Q b { s with heap := h' }) :
    wpAny (model P w) A (setAddHashed S (.ref x) (hs P w ks)) Q E s := by
  obtain ⟨o, go, xo, dt⟩ := B.ob
  unfold setAddHashed
  refine wpAny_holding ?_
  show wpAny _ _ (setAddHashedIn S (.ref x) (hs P w ks) (99999 + 1)) _ _ _
  rw [setAddHashedIn_succ]
  refine wpAny_bind (wpAny_setState_of go dt B.fit ?_)
  refine wp_if_neg (by simp [byScan, Value.scannable]) ?_
  try refine wpAny_bind (wpAny_pure ?_)
  refine wpAny_bind (seek B T hu (fun there => ?_) fun K new gap full => ?_)
  · exact wpAny_pure (q false s.heap L es ep t (Heap.SameBut.refl S s.heap) B (fun _ => rfl) fun z => absurd there z)
  · refine wpAny_bind (wpAny_setState_of go dt B.fit ?_)
    obtain ⟨p1, p2, p3, p4, p5, _, _, _, p9⟩ := B.tb.put gap full
    generalize way t.mask (hs P w ks) K = j at p1 p2 p3 p4 p5 p9 ⊢
    dsimp only
    generalize t.put j = pt at p1 p3 p4 p5 p9 ⊢
    obtain ⟨t1, at'⟩ := pt
    dsimp only at p1 p3 p4 p5 p9 ⊢
    subst p1
    rw [List.length_map] at p9
    by_cases pl : t1.plain = true
    · refine wp_if_pos pl (wpAny_bind (value_tp T fun c => ?_))
      cases c with
      | true => exact lay_row B T sm go xo dt new p3 p4 p5 p9 q
      | false => exact lay_row B T sm go xo dt new (t2 := { t1 with plain := false }) (tab_plain p3 false) p4 p5 p9 q
    · refine wp_if_neg pl ?_
      first
        | exact lay_row B T sm go xo dt new p3 p4 p5 p9 q
        | exact wpAny_bind (wpAny_pure (lay_row B T sm go xo dt new p3 p4 p5 p9 q))
end
end OwP

namespace OwP
open PySem PySem.Spec PyProof.Rows L2
/-- what a set has got from the items: some of them, each key once -/
structure Of (xs L : List (Addr × List Str)) : Prop where
  sub : ∀ p ∈ L, p ∈ xs
  all : ∀ p ∈ xs, p.2 ∈ L.map (·.2)
theorem Of.same {xs L : List (Addr × List Str)} {p : Addr × List Str} (O : Of xs L) (h : p.2 ∈ L.map (·.2)) : Of (xs ++ [p]) L := ⟨fun q hq => List.mem_append_left _ (O.sub q hq), fun q hq => by
  rcases List.mem_append.mp hq with hq | hq
  · exact O.all q hq
  · rw [List.mem_singleton.mp hq]
    exact h⟩
theorem Of.more {xs L L' : List (Addr × List Str)} {p : Addr × List Str} (O : Of xs L) (h : L'.Perm (p :: L)) : Of (xs ++ [p]) L' := ⟨fun q hq => by
  rcases List.mem_cons.mp (h.mem_iff.mp hq) with rfl | hq
  · exact List.mem_append_right _ List.mem_cons_self
  · exact List.mem_append_left _ (O.sub q hq), fun q hq => by
  refine ((h.map (·.2)).mem_iff).mpr ?_
  rw [List.map_cons]
  rcases List.mem_append.mp hq with hq | hq
  · exact List.mem_cons_of_mem _ (O.all q hq)
  · rw [List.mem_singleton.mp hq]
    exact List.mem_cons_self⟩
theorem Of.len {xs L : List (Addr × List Str)} (O : Of xs L) (nd : (L.map (·.2)).Nodup) : L.length ≤ xs.length :=
  List.Nodup.length_le_of_subset (nd.of_map _ fun _ _ h e => h (congrArg _ e)) O.sub
section
variable {P : Program} {w : World} {A : Around} {E : Value → Shared → Prop} {s : Shared} {S x : Addr} {ks : List Str}
/-- the set at S, some rows -/
def Has (P : Program) (w : World) (h : Heap) (S : Addr) (xs : List (Addr × List Str)) : Prop := ∃ L es ep t, Bag P w h S L es ep t ∧ Of xs L
theorem Has.to {h h' : Heap} {xs : List (Addr × List Str)} (H : Has P w h S xs) (k : ∀ b o, (b = S ∨ ∃ p ∈ xs, b = p.1) → h.get? b = some o → h'.get? b = some o) : Has P w h' S xs := by
  obtain ⟨L, es, ep, t, B, O⟩ := H
  obtain ⟨o, go, xo⟩ := B.ob
  exact ⟨L, es, ep, t, ⟨⟨o, k _ _ (Or.inl rfl) go, xo⟩, B.rw, B.tb, B.dis, fun p hp => (B.tp p hp).to fun o g _ => k _ _ (Or.inr ⟨p, O.sub p hp, rfl⟩) g, B.ld, B.sp, B.sm⟩, O⟩
/-- s.add(t) -/
theorem add_one {xs : List (Addr × List Str)} (H : Has P w s.heap S xs) (T : Tp P w s.heap x ks) (hu : A.units + 2 < cLine) (sm : xs.length + 1 < 64) {Q : Bool → Shared → Prop}
    (q : ∀ b h', (∀ c, c ≠ S → ∀ o, s.heap.get? c = some o → h'.get? c = some o) → Has P w h' S (xs ++ [(x, ks)]) → Q b { s with heap := h', toks := s.toks + (ks.length + 1) }) : wpAny (model P w) A (setAdd S (.ref x)) Q E s := by
  obtain ⟨L, es, ep, t, B, O⟩ := H
  have ln := O.len B.dis
  unfold setAdd
  refine wpAny_holding (wpAny_bind (wpAny_pyHash_tuple (by omega) T ?_))
  refine put_in (s := { s with toks := s.toks + (ks.length + 1) }) B T (by omega) (by omega) fun b h' L' es' ep' t' sb B' same more => q b h' (fun c hc o g => (sb.2 c hc).trans g) ?_
  by_cases m : ks ∈ L.map (·.2)
  · rw [same m] at B'
    exact ⟨L, es', ep', t', B', O.same m⟩
  · exact ⟨L', es', ep', t', B', O.more (more m)⟩
end
section
variable {P : Program} {w : World} {A : Around} {R : Result → Shared → Prop} {I : Addr} {fp wr : List Addr} {G : Array GenState → Array GenState → Prop} {n : Nat} {Pv : Nat → Value → Prop} {St : Nat → Shared → Prop}
/-- the loop that fills the set -/
theorem fill (W : WalksS P w A.in1 I fp wr G n Pv St) {S : Addr} (out : S ∉ fp) {xs : List (Addr × List Str)} (hn : xs.length = n) (hb : n + 1 < 64) (hu : A.units + 10 < cLine) (far : ∀ p ∈ xs, p.1 ∉ wr ∧ p.1 ≠ S) (hv : ∀ i v, Pv i v → ∃ p, xs[i]? = some p ∧ v = .ref p.1) :
    ∀ (m i : Nat) (s : Shared), i + m = n → St i s → (∀ p ∈ xs, Tp P w s.heap p.1 p.2) → Has P w s.heap S (xs.take i) → (∀ s', Moved (S :: wr) G s s' → Has P w s'.heap S xs → R (.ok (.ret .none)) s') →
      codeAny (model P w) A (.builtin "set.update.loop" ⟨[.ref S, .ref I], []⟩) R s := by
  have out2 : S ∉ wr := fun z => out (W.sub _ z)
  have wider : ∀ b ∈ wr, b ∈ S :: wr := fun b z => List.mem_cons_of_mem _ z
  intro m
  induction m with
  | zero =>
    intro i s e st tps T k
    obtain rfl : i = n := by omega
    rw [← hn, List.take_length] at T
    refine codeAny_builtin PyProof.Rows.F.entry_set_update_loop ?_
    rw [Around.under_plainId PyProof.Rows.F.plain_set_update_loop _]
    exact wpAny_bind (W.done s _ _ st fun s' mv => wpAny_pure (k s' (mv.mono wider) (T.to fun b o hb q => mv.heap b o (by
      rcases hb with rfl | ⟨p, hp, rfl⟩
      · exact out2
      · exact (far p hp).1) q)))
  | succ m ih =>
    intro i s e st tps T k
    refine codeAny_builtin PyProof.Rows.F.entry_set_update_loop ?_
    rw [Around.under_plainId PyProof.Rows.F.plain_set_update_loop _]
    refine wpAny_bind (W.item i s _ _ (by omega) st fun v s1 pv st1 mv => ?_)
    obtain ⟨p, hp, rfl⟩ := hv i v pv
    have pm : p ∈ xs := List.mem_of_getElem? hp
    have T1 : Has P w s1.heap S (xs.take i) := T.to fun b o hb q => mv.heap b o (by
      rcases hb with rfl | ⟨p, hp, rfl⟩
      · exact out2
      · exact (far p (List.mem_of_mem_take hp)).1) q
    have tps1 : ∀ p ∈ xs, Tp P w s1.heap p.1 p.2 := fun p hp => (tps p hp).to fun o g _ => mv.heap _ o (far p hp).1 g
    have room : (xs.take i).length + 1 < 64 := by
      have b : (xs.take i).length ≤ i := List.length_take_le i xs
      omega
    refine wpAny_bind (wpAny_holding (add_one T1 (tps1 p pm) (by first | omega | (show Around.units _ + 2 < cLine; simp; omega)) room fun b h' kp T2 => ?_))
    have e2 : xs.take (i + 1) = xs.take i ++ [(p.1, p.2)] := by
      rw [List.take_add_one, hp]
      rfl
    rw [← e2] at T2
    refine wpAny_pure ⟨plainId_quiet PyProof.Rows.F.plain_set_update_loop _, ih (i + 1) _ (by omega) (W.frame _ s1 _ _ st1 (Nat.le_add_right _ _) fun c hc o q => kp c (fun z => out (z ▸ hc)) o q) (fun p hp => (tps1 p hp).to fun o g _ => kp _ (far p hp).2 o g) T2 fun s2 mv2 T3 => ?_⟩
    exact k s2 (Moved.trans W.gtrans ((mv.mono wider).then_heap (Nat.le_add_right _ _) fun c o hc q => kp c (fun z => hc (z ▸ List.mem_cons_self)) o q) mv2) T3
end
end OwP

namespace OwP
open PySem PySem.Spec PyProof.Rows PySem.Froz L2 OwT
section
variable {P : Program} {w : World} {A : Around} {E : Value → Shared → Prop} {s : Shared}
theorem bag_new {h : Heap} {S : Addr} (g : h.get? S = some (OwT.fresh w)) : Has P w h S [] := ⟨[], #[], 0, .fresh 0 0 (!w.params.followText "set-order"), ⟨⟨_, g, ⟨rfl, rfl, rfl⟩, rfl⟩, rfl, ⟨List.Pairwise.nil, rfl, rfl, Or.inl rfl, (fun _ h => nomatch h), (fun _ _ _ h _ => nomatch h)⟩, List.nodup_nil, (fun _ h => nomatch h), OwT.fresh_led w, by show 0 * 5 < 7 * 3; decide, by show 0 < 64; decide⟩, ⟨(fun _ h => nomatch h), fun _ h => nomatch h⟩⟩
theorem set_list {l : Addr} {its : Array Value} {xs : List (Addr × List Str)} {Q : Value → Shared → Prop} (hh : A.handled = none) (hl : s.heap.IsList l its) (hi : its.toList = xs.map fun p => Value.ref p.1) (tps : ∀ p ∈ xs, Tp P w s.heap p.1 p.2) (hb : xs.length + 1 < 64) (hu : A.units + 64 < cLine)
    (h : ∀ h' tk, Has P w h' s.heap.objs.size xs → (∀ b o, s.heap.get? b = some o → h'.get? b = some o) → s.heap.objs.size < h'.objs.size → Q (.ref s.heap.objs.size) { s with heap := h', toks := tk }) : wpAny (model P w) A (call (.type "set") [.ref l]) Q E s := by
  obtain ⟨cc, tl, hmro⟩ := PySem.F.called_set.mro
  have hmade := PySem.F.called_set.made; have hsub := PySem.F.called_set.sub; have h1 := PySem.F.called_set.notType; have h2 := PySem.F.called_set.canCreate; have hct := PySem.F.typeCall_set_1 (.ref l)
  refine wpAny_call (codeAny_of_tree (wpAny_pure ⟨Code.quiet_builtin _ (by decide +kernel), codeAny_builtin PySem.F.entry_type_call ?_⟩))
  rw [Around.under_plain (weight_type_call_type "set" [.ref l] []) rfl]
  repeat (any_goals (first | assumption | wp_step))
  refine codeAny_mono (new_led (.ref l) (E := E) (Q₁ := fun o s1 => o = .ref s.heap.objs.size ∧ s1 = { s with heap := s.heap.push (fresh w) }) ⟨rfl, rfl⟩) fun r s1 hr => ?_
  rcases r with er | fl
  · exact hr
  rcases fl with _ | _ | _ | ob
  · exact hr.elim
  · exact hr.elim
  · exact hr.elim
  obtain ⟨rfl, rfl⟩ := hr
  have hS : (s.heap.push (fresh w)).get? s.heap.objs.size = some (fresh w) := Heap.get?_push_size _ rfl
  have hT : Shared.TypeIs { s with heap := s.heap.push (fresh w) } (.ref s.heap.objs.size) "set" := ⟨_, hS, rfl⟩
  have hli := PySem.F.called_set.init.lookup; have hbi := PySem.F.called_set.init.bind (.ref s.heap.objs.size)
  repeat (any_goals (first | assumption | wp_step))
  refine codeAny_mono (codeAny_call_builtin (R := wants (fun r s2 => r = .none ∧ ∃ h' tk, s2 = { s with heap := h', toks := tk } ∧ Has P w h' s.heap.objs.size xs ∧ (∀ b o, s.heap.get? b = some o → h'.get? b = some o) ∧ s.heap.objs.size < h'.objs.size) E) PySem.F.called_set.init.plain PySem.F.entry_set_init (check_set_init_1 hT ?_)) fun r2 s2 hr2 => ?_
  rotate_left
  · rcases r2 with er | fl2
    · exact hr2
    rcases fl2 with _ | _ | _ | rv
    · exact hr2.elim
    · exact hr2.elim
    · exact hr2.elim
    obtain ⟨rfl, h', tk, rfl, g1, g2, g3⟩ := hr2
    repeat (any_goals (first | assumption | wp_step))
    exact h _ _ g1 g2 g3
  obtain ⟨ol, hol, hcl, nl, hdl⟩ := hl
  have lt : l < s.heap.objs.size := Heap.lt_size hol
  obtain ⟨c1, c2, c3, c4⟩ := ol
  dsimp only at hcl hdl
  subst hcl hdl
  have hol2 : (s.heap.push (fresh w)).get? l = some { cls := .type "list", dict := c2, data := .seq its nl, slots := c4 } := Heap.get?_push_of_some _ hol
  have hq : (s.heap.push (fresh w)).IsList l its := ⟨_, hol2, rfl, nl, rfl⟩
  have hsl1 := PySem.F.sub_list_set; have hsl2 := PySem.F.sub_list_frozenset
  have hne : (Value.type "list" == Value.type "dict") = false := by decide
  unfold Builtin.«set.__init__» noKeywords Builtin.Frozenset.updateFrom; generalize hPI : pyIter = PI
  wp_walk
  subst hPI
  refine wpAny_pyIter_list hq (wpAny_bind (wpAny_runValue ?_))
  have sz1 : (s.heap.push (fresh w)).objs.size = s.heap.objs.size + 1 := Heap.size_push _ _
  have hI : l ≠ (s.heap.push (fresh w)).objs.size := by rw [sz1]; exact Nat.ne_of_lt (Nat.lt_succ_of_lt lt)
  have hout : s.heap.objs.size ∉ [(s.heap.push (fresh w)).objs.size, l] := by rw [sz1]; simp only [List.mem_cons, List.not_mem_nil, or_false, not_or]; exact ⟨Nat.ne_of_lt (Nat.lt_succ_self _), Nat.ne_of_gt lt⟩
  have hz : xs.length = its.size := by rw [← Array.length_toList, hi, List.length_map]
  have hv : ∀ (i : Nat) (v : Value), its[i]? = some v → ∃ p, xs[i]? = some p ∧ v = .ref p.1 := fun i v e => by
    rw [← Array.getElem?_toList, hi, List.getElem?_map] at e
    obtain ⟨p, hp, rfl⟩ := Option.map_eq_some_iff.mp e
    exact ⟨p, hp, rfl⟩
  have old : ∀ p ∈ xs, p.1 < s.heap.objs.size := fun p hp => by
    obtain ⟨_, _, _, g, _⟩ := tps p hp
    exact Heap.lt_size g
  refine fill ((Walks.list (by simp [hh]) _ l hI its).toS) hout hz (by rw [← hz]; exact hb) (by first | omega | (simp; omega)) (fun p hp => by
    have lt := old p hp
    simp only [List.mem_cons, List.not_mem_nil, or_false, sz1]
    exact ⟨fun z => by
      rw [z] at lt
      exact absurd lt (Nat.not_lt.mpr (Nat.le_succ _)), fun z => by
      rw [z] at lt
      exact absurd lt (Nat.lt_irrefl _)⟩) hv its.size 0 _ (Nat.zero_add _) ⟨⟨_, Heap.get?_push_size _ rfl, rfl, rfl⟩, hq.push _⟩ (fun p hp => (tps p hp).to fun o g _ => Heap.get?_push_of_some _ (Heap.get?_push_of_some _ g)) (by rw [List.take_zero]; exact bag_new (Heap.get?_push_of_some _ hS)) ?_
  · intro s3 mv T3
    obtain ⟨h3, g3, d3, t3, o3⟩ := s3
    obtain rfl : g3 = s.gens := mv.gens
    obtain rfl : d3 = s.drawn := mv.drawn
    obtain rfl : o3 = s.os := mv.os
    refine wpAny_pure (wpAny_pure ⟨rfl, h3, t3, rfl, T3, fun b o e => ?_, ?_⟩)
    · have lb := Heap.lt_size e
      refine mv.heap b o (fun z => ?_) (Heap.get?_push_of_some _ (Heap.get?_push_of_some _ e))
      simp only [List.mem_cons, List.not_mem_nil, or_false] at z
      rcases z with z | z
      · exact absurd (z ▸ lb) (Nat.lt_irrefl _)
      · rw [sz1] at z
        have z2 : @Eq Nat b (s.heap.objs.size + 1) := z
        have lb2 : @LT.lt Nat _ b s.heap.objs.size := lb
        omega
    · obtain ⟨_, _, _, _, B, _⟩ := T3
      obtain ⟨_, go, _⟩ := B.ob
      exact Heap.lt_size go
theorem set_tuple {l : Addr} {its : Array Value} {xs : List (Addr × List Str)} {Q : Value → Shared → Prop} (hh : A.handled = none) (hl : s.heap.IsTuple l its) (hi : its.toList = xs.map fun p => Value.ref p.1) (tps : ∀ p ∈ xs, Tp P w s.heap p.1 p.2) (hb : xs.length + 1 < 64) (hu : A.units + 64 < cLine)
    (h : ∀ h' tk, Has P w h' s.heap.objs.size xs → (∀ b o, s.heap.get? b = some o → h'.get? b = some o) → s.heap.objs.size < h'.objs.size → Q (.ref s.heap.objs.size) { s with heap := h', toks := tk }) : wpAny (model P w) A (call (.type "set") [.ref l]) Q E s := by
  obtain ⟨cc, tl, hmro⟩ := PySem.F.called_set.mro
  have hmade := PySem.F.called_set.made; have hsub := PySem.F.called_set.sub; have h1 := PySem.F.called_set.notType; have h2 := PySem.F.called_set.canCreate; have hct := PySem.F.typeCall_set_1 (.ref l)
  refine wpAny_call (codeAny_of_tree (wpAny_pure ⟨Code.quiet_builtin _ (by decide +kernel), codeAny_builtin PySem.F.entry_type_call ?_⟩))
  rw [Around.under_plain (weight_type_call_type "set" [.ref l] []) rfl]
  repeat (any_goals (first | assumption | wp_step))
  refine codeAny_mono (new_led (.ref l) (E := E) (Q₁ := fun o s1 => o = .ref s.heap.objs.size ∧ s1 = { s with heap := s.heap.push (fresh w) }) ⟨rfl, rfl⟩) fun r s1 hr => ?_
  rcases r with er | fl
  · exact hr
  rcases fl with _ | _ | _ | ob
  · exact hr.elim
  · exact hr.elim
  · exact hr.elim
  obtain ⟨rfl, rfl⟩ := hr
  have hS : (s.heap.push (fresh w)).get? s.heap.objs.size = some (fresh w) := Heap.get?_push_size _ rfl
  have hT : Shared.TypeIs { s with heap := s.heap.push (fresh w) } (.ref s.heap.objs.size) "set" := ⟨_, hS, rfl⟩
  have hli := PySem.F.called_set.init.lookup; have hbi := PySem.F.called_set.init.bind (.ref s.heap.objs.size)
  repeat (any_goals (first | assumption | wp_step))
  refine codeAny_mono (codeAny_call_builtin (R := wants (fun r s2 => r = .none ∧ ∃ h' tk, s2 = { s with heap := h', toks := tk } ∧ Has P w h' s.heap.objs.size xs ∧ (∀ b o, s.heap.get? b = some o → h'.get? b = some o) ∧ s.heap.objs.size < h'.objs.size) E) PySem.F.called_set.init.plain PySem.F.entry_set_init (check_set_init_1 hT ?_)) fun r2 s2 hr2 => ?_
  rotate_left
  · rcases r2 with er | fl2
    · exact hr2
    rcases fl2 with _ | _ | _ | rv
    · exact hr2.elim
    · exact hr2.elim
    · exact hr2.elim
    obtain ⟨rfl, h', tk, rfl, g1, g2, g3⟩ := hr2
    repeat (any_goals (first | assumption | wp_step))
    exact h _ _ g1 g2 g3
  obtain ⟨ol, hol, hcl, nl, hdl⟩ := hl
  have lt : l < s.heap.objs.size := Heap.lt_size hol
  obtain ⟨c1, c2, c3, c4⟩ := ol
  dsimp only at hcl hdl
  subst hcl hdl
  have hol2 : (s.heap.push (fresh w)).get? l = some { cls := .type "tuple", dict := c2, data := .seq its nl, slots := c4 } := Heap.get?_push_of_some _ hol
  have hq : (s.heap.push (fresh w)).IsTuple l its := ⟨_, hol2, rfl, nl, rfl⟩
  have hsl1 := PySem.F.sub_tuple_set; have hsl2 := PySem.F.sub_tuple_frozenset
  have hne : (Value.type "tuple" == Value.type "dict") = false := by decide
  unfold Builtin.«set.__init__» noKeywords Builtin.Frozenset.updateFrom; generalize hPI : pyIter = PI
  wp_walk
  subst hPI
  refine wpAny_pyIter_tuple hq (wpAny_bind (wpAny_runValue ?_))
  have sz1 : (s.heap.push (fresh w)).objs.size = s.heap.objs.size + 1 := Heap.size_push _ _
  have hI : l ≠ (s.heap.push (fresh w)).objs.size := by rw [sz1]; exact Nat.ne_of_lt (Nat.lt_succ_of_lt lt)
  have hout : s.heap.objs.size ∉ [(s.heap.push (fresh w)).objs.size, l] := by rw [sz1]; simp only [List.mem_cons, List.not_mem_nil, or_false, not_or]; exact ⟨Nat.ne_of_lt (Nat.lt_succ_self _), Nat.ne_of_gt lt⟩
  have hz : xs.length = its.size := by rw [← Array.length_toList, hi, List.length_map]
  have hv : ∀ (i : Nat) (v : Value), its[i]? = some v → ∃ p, xs[i]? = some p ∧ v = .ref p.1 := fun i v e => by
    rw [← Array.getElem?_toList, hi, List.getElem?_map] at e
    obtain ⟨p, hp, rfl⟩ := Option.map_eq_some_iff.mp e
    exact ⟨p, hp, rfl⟩
  have old : ∀ p ∈ xs, p.1 < s.heap.objs.size := fun p hp => by
    obtain ⟨_, _, _, g, _⟩ := tps p hp
    exact Heap.lt_size g
  refine fill ((Walks.tuple (by simp [hh]) _ l hI its).toS) hout hz (by rw [← hz]; exact hb) (by first | omega | (simp; omega)) (fun p hp => by
    have lt := old p hp
    simp only [List.mem_cons, List.not_mem_nil, or_false, sz1]
    exact ⟨fun z => by
      rw [z] at lt
      exact absurd lt (Nat.not_lt.mpr (Nat.le_succ _)), fun z => by
      rw [z] at lt
      exact absurd lt (Nat.lt_irrefl _)⟩) hv its.size 0 _ (Nat.zero_add _) ⟨⟨_, Heap.get?_push_size _ rfl, rfl, rfl⟩, hq.push _⟩ (fun p hp => (tps p hp).to fun o g _ => Heap.get?_push_of_some _ (Heap.get?_push_of_some _ g)) (by rw [List.take_zero]; exact bag_new (Heap.get?_push_of_some _ hS)) ?_
  · intro s3 mv T3
    obtain ⟨h3, g3, d3, t3, o3⟩ := s3
    obtain rfl : g3 = s.gens := mv.gens
    obtain rfl : d3 = s.drawn := mv.drawn
    obtain rfl : o3 = s.os := mv.os
    refine wpAny_pure (wpAny_pure ⟨rfl, h3, t3, rfl, T3, fun b o e => ?_, ?_⟩)
    · have lb := Heap.lt_size e
      refine mv.heap b o (fun z => ?_) (Heap.get?_push_of_some _ (Heap.get?_push_of_some _ e))
      simp only [List.mem_cons, List.not_mem_nil, or_false] at z
      rcases z with z | z
      · exact absurd (z ▸ lb) (Nat.lt_irrefl _)
      · rw [sz1] at z
        have z2 : @Eq Nat b (s.heap.objs.size + 1) := z
        have lb2 : @LT.lt Nat _ b s.heap.objs.size := lb
        omega
    · obtain ⟨_, _, _, _, B, _⟩ := T3
      obtain ⟨_, go, _⟩ := B.ob
      exact Heap.lt_size go
end
end OwP

/-! set(..), len of it, sorted of it, sorted of a list: tuples of texts, over the layer. -/
namespace OwP
open PySem PySem.Spec PyProof.Rows PySem.W L2
/-- a tuple of texts as data, and how two of them stand -/
def enc (p : Addr × List Str) : PyData := .tuple (p.2.map PyData.str)
def le : (Addr × List Str) → (Addr × List Str) → Bool := dataLe false enc
theorem alike_strs : ∀ {xs ys : List Str}, xs.length = ys.length → alikeAll (xs.map PyData.str) (ys.map PyData.str) = true
  | [], [], _ => rfl
  | _ :: xs, _ :: ys, h => by
    show (true && alikeAll (xs.map PyData.str) (ys.map PyData.str)) = true
    rw [alike_strs (Nat.succ.inj h)]
    rfl
theorem dp_strs {K : PySem.W.Frag} {H : Hp} : ∀ ks : List Str, DpAll K H (ks.map V.str) (ks.map PyData.str)
  | [] => .nil
  | k :: r => .cons (.str k) (dp_strs r)
theorem each_refs : ∀ xs : List (Addr × List Str), EachIs (fun (v : Value) (p : Addr × List Str) => v = .ref p.1) (xs.map fun p => .ref p.1) xs
  | [] => .nil
  | _ :: r => .cons rfl (each_refs r)
theorem refs_each : ∀ {vs : List Value} {xs : List (Addr × List Str)}, EachIs (fun (v : Value) (p : Addr × List Str) => v = .ref p.1) vs xs → vs = xs.map fun p => .ref p.1
  | _, [], .nil => rfl
  | _, _ :: _, .cons h r => by rw [h, refs_each r]; rfl
theorem each_all {R : Value → Addr × List Str → Prop} : ∀ xs : List (Addr × List Str), (∀ p ∈ xs, R (.ref p.1) p) → EachIs R (xs.map fun p => .ref p.1) xs
  | [], _ => .nil
  | p :: r, h => .cons (h p List.mem_cons_self) (each_all r fun q hq => h q (List.mem_cons_of_mem _ hq))
theorem vals_refs : ∀ {xs : List (Addr × List Str)} {us : List Value}, Vals (xs.map fun p => V.ref p.1) us → us = xs.map fun p => .ref p.1
  | [], _, .nil => rfl
  | _ :: _, _, .cons h r => by rw [vals_refs r, show _ = Value.ref _ from h]; rfl
theorem refs_vals : ∀ xs : List (Addr × List Str), Vals (xs.map fun p => V.ref p.1) (xs.map fun p => Value.ref p.1)
  | [] => .nil
  | _ :: r => .cons rfl (refs_vals r)
theorem depth_strs : ∀ ks : List Str, (PyData.tuple (ks.map PyData.str)).depth ≤ 2
  | [] => by decide
  | k :: r => by
    have z := depth_strs r
    simp only [PyData.depth, List.map_cons] at z ⊢
    simp only [PyData.depthAll, PyData.depth] at z ⊢
    omega
section
variable {X : Cx} {pins : List (Addr × Obj)} {σ : L2.St} {H : Hp} {s : Shared}
/-- the tuples stand where they are told -/
def Tups (K : PySem.W.Frag) (H : Hp) (xs : List (Addr × List Str)) : Prop := ∀ p ∈ xs, SqT K H p.1 (p.2.map V.str)
theorem tp_of (I : Inv X pins σ H s) {p : Addr × List Str} (h : SqT X.K H p.1 (p.2.map V.str)) : Tp X.prog X.w s.heap p.1 p.2 := by
  obtain ⟨its, rv, ⟨o, go, hc, n, dt⟩, _⟩ := I.tuple h
  refine ⟨o, its.toArray, n, go, hc, dt, ?_⟩
  have z : ∀ {ks : List Str} {us : List Value}, Vals (ks.map V.str) us → ItemsAre (strKind X.prog X.w) ks us := fun {ks} => by
    induction ks with
    | nil =>
      intro us r
      cases r
      exact .nil
    | cons k r ih =>
      intro us h
      cases h with
      | cons h1 h2 =>
        obtain ⟨t, rfl⟩ := h1
        exact .cons (PySem.Froz.is_str k t) (ih h2)
  exact z (by simpa using rv)
theorem items_same {d : Nat} {xs : List (Addr × List Str)} (hd : ∀ p ∈ xs, p.2.length = d) : AllAlike (xs.map enc) := fun a ha b hb => by
  obtain ⟨p, hp, rfl⟩ := List.mem_map.mp ha
  obtain ⟨q, hq, rfl⟩ := List.mem_map.mp hb
  exact alike_strs ((hd p hp).trans (hd q hq).symm)
theorem items_sort {d : Nat} {xs : List (Addr × List Str)} (hd : ∀ p ∈ xs, p.2.length = d) (h1 : 1 ≤ d) : Sortable (xs.map enc) := Or.inl fun a ha => by
  obtain ⟨⟨q, ks⟩, hp, rfl⟩ := List.mem_map.mp ha
  have z : ks.length = d := hd _ hp
  cases ks with
  | nil =>
    rw [← z] at h1
    exact absurd h1 (by decide)
  | cons k r => exact ⟨_, _, rfl⟩
/-- sorted(xs) of a list of tuples of texts -/
def rSortTp (K : PySem.W.Frag) : List V → Hp → VK → Prop := fun vs H Q => ∃ (a : Addr) (xs : List (Addr × List Str)) (d : Nat), vs = [.ref a] ∧ SqL K H a (xs.map fun p => V.ref p.1) ∧ Tups K H xs ∧ 1 ≤ d ∧ (∀ p ∈ xs, p.2.length = d) ∧ xs.length ≤ 1000 ∧ ∀ p, H p = none → Q (.ref p) (upd H p (.lst ((xs.mergeSort le).map fun p => V.ref p.1)))
theorem cr_sortTp (hu : X.A.units + 64 < cLine) : CallR X (.builtin "sorted") (rSortTp X.K) := by
  intro pins s σ H vs us Q I r h
  obtain ⟨a, xs, d, rfl, hs, ht, h1, hd, hz, q⟩ := h
  rw [Vals.ref1 r]
  obtain ⟨its, rv, hl, _⟩ := I.list hs
  have ei := vals_refs rv
  have er : EachIs (fun v b => ∃ as, Reads s.heap v (enc b) as) its xs := by
    rw [ei]
    exact each_all xs fun p hp => Dp.reads I _ (.ref p.1) (.ref p.1) (.tup (ht p hp) (dp_strs p.2)) rfl
  refine sorted_data (vs := its) (R := fun v p => v = .ref p.1) hl.isList (by rw [ei]; exact each_refs xs) er (items_same hd) (items_sort hd h1) (by rw [sizeLine_eq]; omega) (fun p _ => by
    have z := depth_strs p.2
    show X.A.units + 2 + (PyData.tuple (p.2.map PyData.str)).depth < cLine
    omega) fun out _ eo => ?_
  have eo2 := refs_each eo
  obtain ⟨ep, he⟩ := sortedAll_at s.heap its out.toArray
  have hlen : ((xs.mergeSort le).map fun p => V.ref p.1).length ≤ sizeLine := by rw [List.length_map, List.length_mergeSort, sizeLine_eq]; omega
  exact ⟨.ref _, upd H (s.heap.objs.size + 1) (.lst ((xs.mergeSort le).map fun p => V.ref p.1)), I.laid (t' := s.toks) (fun _ _ => sortedAll_old) (Nat.le_succ _) ⟨hlen, out, ep, by rw [eo2]; exact refs_vals _, he⟩, rfl, q _ (I.hok.fresh (Nat.le_succ _))⟩
theorem reads_tp {P : Program} {w : World} {h : Heap} {b : Addr} {ks : List Str} (T : Tp P w h b ks) : Reads h (.ref b) (.tuple (ks.map PyData.str)) [] := by
  obtain ⟨o, its, n, go, hc, dt, it⟩ := T
  have z : ∀ {ks : List Str} {us : List Value}, ItemsAre (strKind P w) ks us → ReadsAll h us (ks.map PyData.str) [] := fun {ks} => by
    induction ks with
    | nil =>
      intro us r
      cases r
      exact .nil
    | cons k r ih =>
      intro us h2
      cases h2 with
      | cons h3 h4 =>
        obtain ⟨t, rfl⟩ := OwT.is_of h3
        exact .cons (as := []) (bs := []) (.str k t) (ih h4)
  exact .tuple go hc dt (z it)
/-- the set's own record -/
structure Bag0 (P : Program) (w : World) (h : Heap) (S : Addr) (L : List (Addr × List Str)) : Prop where
  ex : ∃ es ep t, (∃ o, h.get? S = some o ∧ o.ExactSet ∧ o.data = .set es ep t) ∧ es.toList = L.map (row P w) ∧ TabOk t (L.map fun p => hs P w p.2) ∧ (w.params.followText "set-order" = true ∨ t.led = true) ∧ L.length * 5 < t.mask * 3
  dis : (L.map (·.2)).Nodup
  sm : L.length < 64
def TpO (P : Program) (w : World) (S : Addr) (L : List (Addr × List Str)) : HO := .ext fun h => Bag0 P w h S L
theorem tpO_ok {P : Program} {w : World} {h : Heap} {S : Addr} {L : List (Addr × List Str)} (B : Bag0 P w h S L) : ObjOk P w H h S (TpO P w S L) := by
  have ⟨es, ep, t, ⟨o, g, _⟩, _⟩ := B.ex
  refine ⟨B, ⟨_, g⟩, fun h' _ ⟨⟨es, ep, t, ⟨o, g, x⟩, r⟩, d, m⟩ k => ⟨⟨es, ep, t, ⟨o, k _ g, x⟩, r⟩, d, m⟩⟩
theorem tpO_at (I : Inv X pins σ H s) {S : Addr} {L : List (Addr × List Str)} (h : H S = some (TpO X.prog X.w S L)) : Bag0 X.prog X.w s.heap S L := (I.hok S _ h).1
/-- set(xs) -/
def rSetTp (X : Cx) : List V → Hp → VK → Prop := fun vs H Q => ∃ (a : Addr) (xs : List (Addr × List Str)), vs = [.ref a] ∧ (SqL X.K H a (xs.map fun p => V.ref p.1) ∨ SqT X.K H a (xs.map fun p => V.ref p.1)) ∧ Tups X.K H xs ∧ xs.length ≤ 60 ∧ ∀ p L, Of xs L → (L.map (·.2)).Nodup → H p = none → Q (.ref p) (upd H p (TpO X.prog X.w p L))
theorem call_setTp (hc : X.calm = true) (hu : X.A.units + 64 < cLine) : CallR X (.type "set") (rSetTp X) := by
  intro pins s σ H vs us Q I r h
  obtain ⟨a, xs, rfl, hs, ht, hz, q⟩ := h
  rw [Vals.ref1 r]
  have fin : ∀ h' tk, Has X.prog X.w h' s.heap.objs.size xs → (∀ b o, s.heap.get? b = some o → h'.get? b = some o) → s.heap.objs.size < h'.objs.size → EP X pins σ Q (.ref s.heap.objs.size) { s with heap := h', toks := tk } := fun h' tk ⟨L, es, ep, t, B, O⟩ k lt =>
    ⟨.ref s.heap.objs.size, _, I.laid (t' := tk) k (Nat.le_refl _) (tpO_ok ⟨⟨es, ep, t, B.ob, B.rw, B.tb, B.ld, B.sp⟩, B.dis, B.sm⟩), rfl, q _ L O B.dis (I.hok.fresh (Nat.le_refl _))⟩
  have tps : ∀ p ∈ xs, Tp X.prog X.w s.heap p.1 p.2 := fun p hp => tp_of I (ht p hp)
  rcases hs with hs | hs
  · obtain ⟨its, rv, pl, _⟩ := I.list hs
    exact set_list (I.ok.hd hc) pl.isList (by simpa using vals_refs rv) tps (by omega) hu fin
  · obtain ⟨its, rv, pl, _⟩ := I.tuple hs
    exact set_tuple (I.ok.hd hc) pl (by simpa using vals_refs rv) tps (by omega) hu fin
/-- len of it -/
def rLenTp (X : Cx) : List V → Hp → VK → Prop := fun vs H Q => ∃ (a : Addr) (L : List (Addr × List Str)), vs = [.ref a] ∧ H a = some (TpO X.prog X.w a L) ∧ Q (.int L.length) H
theorem bag_fit {es : Array (Int × Value)} {t : SetTable} {P : Program} {w : World} {L : List (Addr × List Str)} (r : es.toList = L.map (row P w)) (T : TabOk t (L.map fun p => hs P w p.2)) (sp : L.length * 5 < t.mask * 3) : es.size = L.length ∧ t.fits es.size = true := by
  have a := T.sz
  have b : es.size = L.length := by rw [← Array.length_toList, r, List.length_map]
  rw [List.length_map] at a
  refine ⟨b, ?_⟩
  simp only [SetTable.fits, SetTable.fill, T.dm, Bool.and_eq_true, beq_iff_eq, decide_eq_true_eq]
  show t.place.size = es.size ∧ t.place.size + 0 ≤ t.mask
  omega
theorem call_lenTp : CallR X (.builtin "len") (rLenTp X) := by
  intro pins s σ H vs us Q I r h
  obtain ⟨a, L, rfl, ha, q⟩ := h
  rw [Vals.ref1 r]
  obtain ⟨⟨es, ep, t, ⟨o, g, xo, dt⟩, rw', T, _, sp⟩, _, sm⟩ := tpO_at I ha
  obtain ⟨z, f⟩ := bag_fit rw' T sp
  exact call_len_set g xo dt f (by rw [z]; omega) ⟨.int L.length, H, I.tok _, ⟨_, by rw [z]⟩, q⟩
/-- sorted(the set) -/
def rSortST (X : Cx) : List V → Hp → VK → Prop := fun vs H Q => ∃ (a : Addr) (L : List (Addr × List Str)) (d : Nat), vs = [.ref a] ∧ H a = some (TpO X.prog X.w a L) ∧ Tups X.K H L ∧ 1 ≤ d ∧ (∀ p ∈ L, p.2.length = d) ∧ ∀ (xs : List (Addr × List Str)) (p : Addr), xs.Perm L → H p = none → Q (.ref p) (upd H p (.lst ((xs.mergeSort le).map fun p => V.ref p.1)))
theorem call_sortST (hc : X.calm = true) (hu : X.A.units + 64 < cLine) : CallR X (.builtin "sorted") (rSortST X) := by
  intro pins s σ H vs us Q I r h
  obtain ⟨a, L, d, rfl, ha, ht, h1, hd, q⟩ := h
  rw [Vals.ref1 r]
  obtain ⟨⟨es, ep, t, ⟨o, g, xo, dt⟩, rw', T, ld, sp⟩, _, sm⟩ := tpO_at I ha
  obtain ⟨z, f⟩ := bag_fit rw' T sp
  have fb : es.size < scanBound := by unfold scanBound; omega
  refine Calls.call_function_entry kind_sorted plain_sorted entry_sorted (args_sorted1 _) ?_
  unfold Builtin.«sorted»
  refine wpAny_bind (m := checkCount "sorted" 1 1 _) (wpAny_pure (wpAny_bind (collect_set (A := X.A.in1) (I.ok.hd hc) ⟨o, g, xo.1, dt⟩ f fb T.ris ld fun s1 ws k1 hz g1 o1 pm => ?_)))
  have pm2 : ws.Perm (L.map fun p => Value.ref p.1) := by
    rw [rw', List.map_map] at pm
    exact pm
  obtain ⟨xs, ew, px⟩ := perm_unmap (fun p : Addr × List Str => Value.ref p.1) pm2 L rfl
  have hd' : ∀ p ∈ xs, p.2.length = d := fun p hp => hd p (px.mem_iff.mp hp)
  have zx : xs.length = L.length := px.length_eq
  have wl : ws.length = xs.length := by rw [ew, List.length_map]
  refine wpAny_bind (wpAny_newList ?_ (by rw [sizeLine_eq]; omega))
  have hoL : (s1.heap.push (seqObj "list" ws.toArray 0)).get? s1.heap.objs.size = some (seqObj "list" ws.toArray 0) := Heap.get?_push_size _ rfl
  have er : EachIs (fun v b => ∃ as, Reads (s1.heap.push (seqObj "list" ws.toArray 0)) v (enc b) as ∧ s1.heap.objs.size ∉ as) ws xs := by
    rw [ew]
    exact each_all xs fun p hp => ⟨[], reads_tp ((tp_of I (ht p (px.mem_iff.mp hp))).to fun o g _ => Heap.get?_push_of_some _ (k1 _ _ g)), fun z => nomatch z⟩
  refine wpAny_bind (wpAny_holding (list_sort_data (R := fun v p => v = .ref p.1) hoL (by rw [ew]; exact each_refs xs) er (items_same hd') (items_sort hd' h1) (by rw [sizeLine_eq]; omega) (fun p _ => by
    have z := depth_strs p.2
    show X.A.in1.units + 1 + (PyData.tuple (p.2.map PyData.str)).depth < cLine
    have y : X.A.in1.units = X.A.units + 1 := rfl
    omega) fun out _ eo => ?_))
  have eo2 := refs_each eo
  obtain ⟨c, hcc⟩ := sortedHeap_at (vs := ws) (out := out.toArray) hoL
  have hn : H s1.heap.objs.size = none := I.hok.fresh hz
  have hlen : ((xs.mergeSort le).map fun p => V.ref p.1).length ≤ sizeLine := by rw [List.length_map, List.length_mergeSort, sizeLine_eq]; omega
  have keep : ∀ b o, s.heap.get? b = some o → (sortedHeap (s1.heap.push (seqObj "list" ws.toArray 0)) s1.heap.objs.size ws out.toArray).get? b = some o := fun b o e => by
    have e1 := k1 b o e
    have lt := Heap.lt_size e1
    rw [sortedHeap_old (Nat.ne_of_lt lt) (by rw [size_push']; exact Nat.lt_succ_of_lt lt)]
    exact Heap.get?_push_of_some _ e1
  obtain ⟨h1', gg, dd, tk, os⟩ := s1
  dsimp only at g1 o1
  subst g1 o1
  have J : Inv X pins σ (upd H h1'.objs.size (.lst ((xs.mergeSort le).map fun p => V.ref p.1))) { s with heap := sortedHeap (h1'.push (seqObj "list" ws.toArray 0)) h1'.objs.size ws out.toArray, gens := s.gens, drawn := dd, toks := tk } :=
    I.call (ch := []) (Un.laid keep hz hn) (I.hok.laid keep hz ⟨hlen, _, c, by rw [eo2]; exact refs_vals _, hcc⟩) I.bare (fun _ z => nomatch z)
  exact wpAny_pure ⟨_, rfl, .ref h1'.objs.size, _, J, rfl, q xs _ px hn⟩
end
end OwP

/-! min and max of two texts; < of two tuples of texts; how pairs of texts stand. -/
namespace OwL2
open PySem PySem.Spec PyProof.Rows L2
/-- the lesser text by its signs -/
def lt (a b : Str) : Bool := decide (a.cps.toList < b.cps.toList)
section
variable {P : Program} {w : World} {A : Around} {E : Value → Shared → Prop} {s : Shared}
def item (a b : Str) (i : Nat) : Str := if i = 0 then a else b
theorem two_at {a b : Str} {t u : Tok} {i : Nat} {v : Value} (h : (#[Value.str a t, Value.str b u] : Array Value)[i]? = some v) : ∃ z, v = .str (item a b i) z := by
  match i, h with
  | 0, h =>
    cases (show some (Value.str a t) = some v from h)
    exact ⟨t, rfl⟩
  | 1, h =>
    cases (show some (Value.str b u) = some v from h)
    exact ⟨u, rfl⟩
  | n + 2, h =>
    have z : (#[Value.str a t, Value.str b u] : Array Value)[n + 2]? = none := Array.getElem?_eq_none (by simp)
    rw [z] at h
    cases h
theorem two_walk {a b : Str} {t u : Tok} (hh : A.handled = none) {op : CmpOp} {bt : Nat → Nat → Bool} {Q : Value → Shared → Prop} (cmp : CmpOf P w A.in1 op (fun i v => (#[Value.str a t, Value.str b u] : Array Value)[i]? = some v) bt)
    (q : ∀ v h' tk, (∃ z, v = Value.str (item a b (argBest bt 1)) z) → (∀ c o, s.heap.get? c = some o → h'.get? c = some o) → Q v { s with heap := h', toks := tk }) :
    wpAny (model P w) A.in1 (pyIter (.ref s.heap.objs.size)) (fun it s₂ => ∃ I fp wr n Pv St bt, it = .ref I ∧ Walks P w A.in1 I fp wr n Pv St ∧ St 0 s₂.heap ∧ (∀ b ∈ fp, b < s₂.heap.objs.size) ∧ 0 < n ∧ CmpOf P w A.in1 op Pv bt ∧
      ∀ v h' tk, Pv (argBest bt (n - 1)) v → (∀ b o, b ∉ wr → s₂.heap.get? b = some o → h'.get? b = some o) → Q v { s₂ with heap := h', toks := tk }) E { s with heap := s.heap.push { cls := .type "tuple", data := .seq #[.str a t, .str b u] } } := by
  have hT : (s.heap.push { cls := .type "tuple", data := .seq #[.str a t, .str b u] }).IsTuple s.heap.objs.size #[.str a t, .str b u] := ⟨_, Heap.get?_push_size _ rfl, rfl, 0, rfl⟩
  have hsz : (s.heap.push { cls := .type "tuple", data := .seq #[.str a t, .str b u] }).objs.size = s.heap.objs.size + 1 := Heap.size_push ..
  refine wpAny_pyIter_tuple hT ⟨_, [_, s.heap.objs.size], [_], _, _, _, bt, rfl, Walks.tuple (A := A.in1) hh _ s.heap.objs.size (by rw [hsz]; exact Nat.ne_of_lt (Nat.lt_succ_self _)) #[.str a t, .str b u], ⟨⟨_, Heap.get?_push_size _ rfl, rfl, rfl⟩, hT.push _⟩, fun c hc => ?_, (by show 0 < 2; decide), cmp, fun v h' tk hP hk => q v h' tk (two_at hP) fun c o e => ?_⟩
  · show c < ((s.heap.push _).push _).objs.size
    rw [Heap.size_push, hsz]
    rcases List.mem_cons.mp hc with rfl | hc
    · rw [hsz]
      exact Nat.lt_succ_self _
    · rw [List.mem_singleton.mp hc]
      exact Nat.lt_succ_of_lt (Nat.lt_succ_self _)
  · refine hk c o (fun hm => ?_) (Heap.get?_push_of_some _ (Heap.get?_push_of_some _ e))
    have lt := Heap.lt_size e
    rw [List.mem_singleton.mp hm, hsz] at lt
    exact Nat.lt_irrefl _ (Nat.lt_of_succ_lt lt)
theorem cmp_lt {a b : Str} {t u : Tok} : CmpOf P w A .Lt (fun i v => (#[Value.str a t, Value.str b u] : Array Value)[i]? = some v) (fun i j => lt (item a b i) (item a b j)) := fun i j vi vj s Q E hi hj q => by
  obtain ⟨z, rfl⟩ := two_at hi
  obtain ⟨y, rfl⟩ := two_at hj
  exact richCompare_gives (op := .Lt) (typeIs_str s _ z) (typeIs_str s _ y) PySem.F.slot_str_lt PySem.F.entry_str_lt (PySem.F.args_str_lt_2 _ _) (gives_str_lt _ _ z y) (fun e => nomatch e) q
theorem cmp_gt {a b : Str} {t u : Tok} : CmpOf P w A .Gt (fun i v => (#[Value.str a t, Value.str b u] : Array Value)[i]? = some v) (fun i j => lt (item a b j) (item a b i)) := fun i j vi vj s Q E hi hj q => by
  obtain ⟨z, rfl⟩ := two_at hi
  obtain ⟨y, rfl⟩ := two_at hj
  exact richCompare_gives (op := .Gt) (typeIs_str s _ z) (typeIs_str s _ y) PySem.F.slot_str_gt PySem.F.entry_str_gt (PySem.F.args_str_gt_2 _ _) (gives_str_gt _ _ z y) (fun e => nomatch e) q
end
def minS (a b : Str) : Str := if lt b a = true then b else a
def maxS (a b : Str) : Str := if lt a b = true then b else a
section
variable {X : Cx}
theorem call_minS (hc : X.calm = true) : CallR X (.builtin "min") (fun xs H Q => ∃ a b, xs = [.str a, .str b] ∧ Q (.str (minS a b)) H) := by
  intro pins s σ H xs us Q I r h
  obtain ⟨a, b, rfl, q⟩ := h
  obtain ⟨u, w', rfl, ⟨t, rfl⟩, ⟨t', rfl⟩⟩ := vals2 r
  refine call_min_two (two_walk (I.ok.hd hc) cmp_lt fun v h' tk ⟨z, hv⟩ k => ⟨.str (minS a b), H, I.kept k, ⟨z, ?_⟩, q⟩)
  rw [hv]
  have e : item a b (argBest (fun i j => lt (item a b i) (item a b j)) 1) = minS a b := by
    show item a b (if lt (item a b 1) (item a b 0) = true then 1 else 0) = if lt b a = true then b else a
    by_cases c : lt b a = true
    · rw [if_pos c, if_pos (show lt (item a b 1) (item a b 0) = true from c)]
      rfl
    · rw [if_neg c, if_neg (show ¬ lt (item a b 1) (item a b 0) = true from c)]
      rfl
  rw [e]
theorem call_maxS (hc : X.calm = true) : CallR X (.builtin "max") (fun xs H Q => ∃ a b, xs = [.str a, .str b] ∧ Q (.str (maxS a b)) H) := by
  intro pins s σ H xs us Q I r h
  obtain ⟨a, b, rfl, q⟩ := h
  obtain ⟨u, w', rfl, ⟨t, rfl⟩, ⟨t', rfl⟩⟩ := vals2 r
  refine call_max_two (two_walk (I.ok.hd hc) cmp_gt fun v h' tk ⟨z, hv⟩ k => ⟨.str (maxS a b), H, I.kept k, ⟨z, ?_⟩, q⟩)
  rw [hv]
  have e : item a b (argBest (fun i j => lt (item a b j) (item a b i)) 1) = maxS a b := by
    show item a b (if lt (item a b 0) (item a b 1) = true then 1 else 0) = if lt a b = true then b else a
    by_cases c : lt a b = true
    · rw [if_pos c, if_pos (show lt (item a b 0) (item a b 1) = true from c)]
      rfl
    · rw [if_neg c, if_neg (show ¬ lt (item a b 0) (item a b 1) = true from c)]
      rfl
  rw [e]
/-- < of two that stand as data of one shape -/
def rLtD (K : PySem.W.Frag) : R2 := fun x y H Q => ∃ d e, Dp K H x d ∧ Dp K H y e ∧ PySem.W.alike d e = true ∧ d ≠ .none ∧ d.depth ≤ 60 ∧ Q (.bl (PySem.W.dataLt d e)) H
theorem op_ltD (hu : X.A.units + 64 < cLine) : OpR X (compareOp .Lt) (rLtD X.K) := by
  intro pins s σ H x y v u Q I rx ry h
  obtain ⟨d, e, hd, he, al, nn, dp, q⟩ := h
  obtain ⟨as, r1⟩ := Dp.reads I d x v hd rx
  obtain ⟨bs, r2⟩ := Dp.reads I e y u he ry
  have z := PySem.W.rcLt_alike d e X.A s v u as bs r1 r2 al nn (by omega)
  exact z X.prog X.w X.xe _ ⟨.bl (PySem.W.dataLt d e), H, I, rfl, q⟩
end
/-- pairs of texts: by the first, then by the second -/
def ltP (p q : Str × Str) : Bool := if p.1 = q.1 then lt p.2 q.2 else lt p.1 q.1
theorem eqv_str (a b : Str) : PyData.eqv (.str a) (.str b) = decide (a = b) := by
  simp only [PyData.eqv]
  by_cases c : a = b
  · rw [c]; simp
  · simp [c]
theorem dataLt_pairS (p q : Str × Str) : PySem.W.dataLt (.tuple [.str p.1, .str p.2]) (.tuple [.str q.1, .str q.2]) = ltP p q := by
  rw [PySem.W.dataLt_pair rfl rfl, eqv_str, eqv_str, PySem.W.dataLt_str, PySem.W.dataLt_str]
  unfold ltP lt
  by_cases c : p.1 = q.1
  · rw [if_pos (decide_eq_true c), if_pos c]
    by_cases d : p.2 = q.2
    · rw [if_pos (decide_eq_true d), d]
      have n : ¬ q.2.cps.toList < q.2.cps.toList := List.lt_irrefl _
      rw [decide_eq_false n]
    · rw [if_neg (by rw [decide_eq_true_eq]; exact d)]
  · rw [if_neg (by rw [decide_eq_true_eq]; exact c), if_neg c]
end OwL2

/-! list(d.values()), tuple(d.values()). -/
namespace OwV
open PySem PySem.Spec PyProof.Rows L2 PySem.W
section
variable {prog : Program} {w : World} {A : Around} {E : Value → Shared → Prop} {s : Shared} {T : String} {r d : Addr} {n : Nat} {P : Nat → Value → Prop} {OK : Heap → Prop}
theorem collect_src {Q : List Value → Shared → Prop} (S : KdlSrc prog w T r d n P OK) (hh : A.handled = none) (ok : OK s.heap) (hn : n ≤ sizeLine) (hQ : ∀ h' tk acc, (∀ b o, s.heap.get? b = some o → h'.get? b = some o) → ItemsOf P acc n → Q acc.toList { s with heap := h', toks := tk }) :
    wpAny (model prog w) A (collect (.ref r)) Q E s := by
  have hlt := S.there _ ok
  have gL : (s.heap.push { cls := .type "list", data := .seq #[] }).get? s.heap.objs.size = some { cls := .type "list", data := .seq #[] 0 } := Heap.get?_push_size _ rfl
  unfold collect
  refine wpAny_bind (wpAny_runValue (codeAny_builtin PySem.F.entry_proto_collect ?_)); rw [Around.under_plainId PySem.F.plain_proto_collect _]
  refine wpAny_bind (m := newList []) (wpAny_newObj_type (wpAny_pure ⟨plainId_quiet PySem.F.plain_list_iadd _, codeAny_builtin PySem.F.entry_list_iadd ?_⟩))
  rw [Around.under_plainId PySem.F.plain_list_iadd _]
  have done : ∀ (r' : Result) (s' : Shared), (∃ h' tk acc c, r' = .ok (.ret (.ref s.heap.objs.size)) ∧ s' = { s with heap := h', toks := tk } ∧ (∀ b o, b ≠ s.heap.objs.size → (s.heap.push { cls := .type "list", data := .seq #[] }).get? b = some o → h'.get? b = some o) ∧
      h'.get? s.heap.objs.size = some { cls := .type "list", dict := none, data := .seq acc c, slots := #[] } ∧ ItemsOf P acc n) → r' = .ok (.ret (.ref s.heap.objs.size)) ∧ wpAny (model prog w) A (do match (← load s.heap.objs.size).data with | Data.seq xs _ => pure xs.toList | _ => unsupported "internal:collect") Q E s' := by
    rintro r' s' ⟨h', tk, acc, c, rfl, rfl, k, g, it⟩
    exact ⟨rfl, wpAny_bind (wpAny_load g (wpAny_pure (hQ h' tk acc (fun b o e => k b o (Nat.ne_of_lt (Heap.lt_size e)) (Heap.get?_push_of_some _ e)) it)))⟩
  show wpAny _ A.in1 (Builtin.List.listExtendWith (.ref s.heap.objs.size) (.ref r) (.ref s.heap.objs.size)) _ _ { s with heap := s.heap.push { cls := .type "list", data := .seq #[] } }
  refine wpAny_mono (kdl_extend (A := A) (s := { s with heap := s.heap.push { cls := .type "list", data := .seq #[] } }) (R := fun r' s' => ∃ h' tk acc c, r' = .ok (.ret (.ref s.heap.objs.size)) ∧ s' = { s with heap := h', toks := tk } ∧ (∀ b o, b ≠ s.heap.objs.size → (s.heap.push { cls := .type "list", data := .seq #[] }).get? b = some o → h'.get? b = some o) ∧
      h'.get? s.heap.objs.size = some { cls := .type "list", dict := none, data := .seq acc c, slots := #[] } ∧ ItemsOf P acc n) S hh (S.keep _ _ ok fun b _ o e => Heap.get?_push_of_some _ e) s.heap.objs.size (Nat.ne_of_gt hlt.1) (Nat.ne_of_gt hlt.2) _ 0 gL (fun h' tk acc c k g it => ⟨h', tk, acc, c, rfl, rfl, k, g, it⟩) hn) (fun fin s' hf => ?_) (fun e s' hf => ?_)
  · cases fin with
    | done f =>
      obtain ⟨e1, q⟩ := done _ _ hf
      cases e1
      exact q
    | again c' => exact ⟨hf.1, codeAny_mono hf.2 fun r2 s2 hr => by
        obtain ⟨e1, q⟩ := done _ _ hr
        subst e1
        exact q⟩
  · obtain ⟨e1, _⟩ := done _ _ hf
    cases e1
theorem tuple_src {Q : Value → Shared → Prop} (S : KdlSrc prog w T r d n P OK) (hh : A.handled = none) (ok : OK s.heap) (hn : n ≤ sizeLine)
    (hQ : ∀ (h' : Heap) (tk : Nat) (acc : Array Value), (∀ b o, s.heap.get? b = some o → h'.get? b = some o) → ItemsOf P acc n → Q (.ref h'.objs.size) { s with heap := h'.push { cls := .type "tuple", data := .seq acc }, toks := tk }) :
    wpAny (model prog w) A (call (.type "tuple") [.ref r]) Q E s := by
  refine callType_codes (Q₁ := fun obj s1 => s1.TypeIs obj "tuple" ∧ Q obj s1) PySem.F.called_tuple (PySem.F.typeCall_tuple_1 _) PySem.F.entry_object_init ?_ fun obj s1 hq => ⟨hq.1, PySem.F.args_object_init_2 obj _, object_init_meets PySem.F.called_tuple.init.lookup PySem.F.called_tuple.made (by decide) prog w A.in1 _ s1 ⟨hq.1, rfl, hq.2⟩⟩
  refine codeAny_of_tree (wpAny_bind (wpAny_of_eq (PySem.F.newCall_tuple_1 _) (wpAny_pure ⟨plainId_quiet PySem.F.plain_tuple_new _, codeAny_builtin PySem.F.entry_tuple_new ?_⟩)))
  rw [Around.under_plainId PySem.F.plain_tuple_new _]
  have hT : s.TypeIs (.ref r) T := S.type s ok
  obtain ⟨hp, g, dr, tk, os⟩ := s
  have hsub := sub_tuple_self; have hinit := init_tuple_lookup; have hmh := madeHere_tuple
  have nt := S.notTuple
  have hh2 : A.in1.in1.handled = none := by simp [hh]
  wp_walk using wpAny_typeOf hT, collect_src (A := A.in1.in1) S hh2 ok hn
  intro h' t2 acc k it
  have e : acc.toList.toArray = acc := by simp
  show wpAny _ _ (Builtin.Tuple.tupleExact acc.toList.toArray >>= fun v => ret v) _ _ _
  rw [e]
  unfold Builtin.Tuple.tupleExact
  refine wpAny_bind (wpAny_newObj_type ?_ (by show acc.size ≤ sizeLine; rw [it.1]; exact hn))
  exact wpAny_pure ⟨⟨_, Heap.get?_push_size _ rfl, rfl⟩, hQ h' t2 acc k it⟩
end
section
variable {X : Cx} {e : Expr} {te : TE} {p apos cpos pos : Pos}
/-- list(e.values()), tuple(e.values()) -/
def tVals (mk : List V → HO) (te : TE) : TE := fun σ H Q => te σ H fun x H1 => ∃ (d : Addr) (kvs : List (Key × V)), x = .ref d ∧ H1 d = some (.dK kvs) ∧ kvs.length ≤ sizeLine ∧ ∀ q, H1 q = none → Q (.ref q) (upd H1 q (mk (kvs.map (·.2))))
theorem vals_of_items {kvs : List (Key × V)} {vs : List (Key × Value)} {acc : Array Value} (kv : KV kvs vs) (it : ItemsOf (fun i v => ∃ k, vs[i]? = some (k, v)) acc vs.length) : Vals (kvs.map (·.2)) acc.toList := by
  have ea : acc.toList = vs.map (·.2) := by
    apply List.ext_getElem
    · rw [Array.length_toList, it.1, List.length_map]
    · intro i h1 h2
      have hi : i < acc.size := by rw [Array.length_toList] at h1; exact h1
      obtain ⟨k, ek⟩ := it.2 i _ (Array.getElem?_eq_getElem hi)
      rw [List.getElem_map, Array.getElem_toList]
      have z := (List.getElem?_eq_some_iff.mp ek).2
      rw [z]
  rw [ea]
  have z : ∀ {kvs : List (Key × V)} {vs : List (Key × Value)}, KV kvs vs → Vals (kvs.map (·.2)) (vs.map (·.2)) := fun kv => by
    induction kv with
    | nil => exact .nil
    | cons h _ ih => exact .cons h.2 ih
  exact z kv
theorem pe_listVals (hc : X.calm = true) (he : PE X e te) (hg : Gl X "list") (hm : X.mg "list" = none) (hv : bootBuiltins "list" = some (.type "list")) (hbase : attributeBase e "values" X.env (eval e X.env) = eval e X.env := by rfl) (hline : (apos.endLine == cpos.line) = true := by rfl)
    (hs : starEach [.Call (.Attribute e "values" apos) [] [] cpos] X.env = (false, eval (.Call (.Attribute e "values" apos) [] [] cpos) X.env) :: starEach [] X.env := by rfl) : PE X (.Call (.Name "list" p) [.Call (.Attribute e "values" apos) [] [] cpos] [] pos) (tVals .lst te) := by
  refine ⟨fun pins s σ H Q I hq => wpAny_Call_Name_kw (ld_blt I hg hm hv (PyProof.Rows.callWith_type1 ?_ hs rfl))⟩
  rw [hs]
  show wpAny _ _ (spliced ((false, eval (.Call (.Attribute e "values" apos) [] [] cpos) X.env) :: backTo pos (starEach [] X.env))) _ _ s
  refine Calls.spliced_cons (wpAny_Call_method (T := "dict") (id := "dict.values") hbase rfl hline PySem.F.plainAttrs_dict PySem.F.slot_dict_values PySem.F.type_dict_values (thn (he.run pins s σ H _ I hq) fun u s1 ⟨x, H1, I1, rx, d, kvs, ex, hd, hz1, q⟩ => ?_))
  subst ex
  obtain rfl : u = Value.ref d := rx
  obtain ⟨hz, hs0, vs, kv, hdo⟩ := I1.hok d _ hd
  obtain ⟨ep, hat⟩ := hdo.dictAt
  have lk : kvs.length = vs.length := Paired.length kv
  have I2 : Inv X pins σ H1 { s1 with heap := s1.heap.push { cls := .type "dict_values", data := .fields #[.ref d] } } := I1.kept (t' := s1.toks) fun b ob q => Heap.get?_push_of_some _ q
  refine ⟨hdo.typeIs, hdo.mapOf.noDict, ?_⟩
  show wpAny _ _ (callWith cpos (.builtin "dict.values") [.ref d] [] []) _ X.xe s1
  refine method_meetsIn PySem.F.slot_dict_values PySem.F.entry_dict_values rfl (PySem.evalArgs_none ⟨rfl, hdo.typeIs, PySem.F.args_dict_values_1 _, _, meets_dict_values (mixKind X.prog X.w) d hs0, ⟨vs, hdo⟩, Calls.spliced_nil ?_⟩)
  refine kdl_call (kdl_values (knd := mixKind X.prog X.w) (kvs := vs) (ep := ep)) (I1.ok.hd hc) ⟨⟨_, Heap.get?_push_size _ rfl, rfl, rfl⟩, hat.push _⟩ (by omega) fun h' tk acc c k g it => ?_
  have rv := vals_of_items kv it
  have zl : (kvs.map (·.2)).length ≤ sizeLine := by rw [List.length_map]; omega
  exact ⟨.ref _, _, I2.laid (o := .lst (kvs.map (·.2))) (t' := tk) k (Nat.le_refl _) ⟨zl, acc.toList, c, rv, by rw [Array.toArray_toList]; exact g⟩, rfl, q _ (I2.hok.fresh (Nat.le_refl _))⟩
theorem pe_tupVals (hc : X.calm = true) (he : PE X e te) (hg : Gl X "tuple") (hm : X.mg "tuple" = none) (hv : bootBuiltins "tuple" = some (.type "tuple")) (hbase : attributeBase e "values" X.env (eval e X.env) = eval e X.env := by rfl) (hline : (apos.endLine == cpos.line) = true := by rfl)
    (hs : starEach [.Call (.Attribute e "values" apos) [] [] cpos] X.env = (false, eval (.Call (.Attribute e "values" apos) [] [] cpos) X.env) :: starEach [] X.env := by rfl) : PE X (.Call (.Name "tuple" p) [.Call (.Attribute e "values" apos) [] [] cpos] [] pos) (tVals .tup te) := by
  refine ⟨fun pins s σ H Q I hq => wpAny_Call_Name_kw (ld_blt I hg hm hv (PyProof.Rows.callWith_type1 ?_ hs rfl))⟩
  rw [hs]
  show wpAny _ _ (spliced ((false, eval (.Call (.Attribute e "values" apos) [] [] cpos) X.env) :: backTo pos (starEach [] X.env))) _ _ s
  refine Calls.spliced_cons (wpAny_Call_method (T := "dict") (id := "dict.values") hbase rfl hline PySem.F.plainAttrs_dict PySem.F.slot_dict_values PySem.F.type_dict_values (thn (he.run pins s σ H _ I hq) fun u s1 ⟨x, H1, I1, rx, d, kvs, ex, hd, hz1, q⟩ => ?_))
  subst ex
  obtain rfl : u = Value.ref d := rx
  obtain ⟨hz, hs0, vs, kv, hdo⟩ := I1.hok d _ hd
  obtain ⟨ep, hat⟩ := hdo.dictAt
  have lk : kvs.length = vs.length := Paired.length kv
  have I2 : Inv X pins σ H1 { s1 with heap := s1.heap.push { cls := .type "dict_values", data := .fields #[.ref d] } } := I1.kept (t' := s1.toks) fun b ob q => Heap.get?_push_of_some _ q
  refine ⟨hdo.typeIs, hdo.mapOf.noDict, ?_⟩
  show wpAny _ _ (callWith cpos (.builtin "dict.values") [.ref d] [] []) _ X.xe s1
  refine method_meetsIn PySem.F.slot_dict_values PySem.F.entry_dict_values rfl (PySem.evalArgs_none ⟨rfl, hdo.typeIs, PySem.F.args_dict_values_1 _, _, meets_dict_values (mixKind X.prog X.w) d hs0, ⟨vs, hdo⟩, Calls.spliced_nil ?_⟩)
  refine tuple_src (kdl_values (knd := mixKind X.prog X.w) (kvs := vs) (ep := ep)) (I1.ok.hd hc) ⟨⟨_, Heap.get?_push_size _ rfl, rfl, rfl⟩, hat.push _⟩ (by omega) fun h' tk acc k it => ?_
  have rv := vals_of_items kv it
  have zl : (kvs.map (·.2)).length ≤ sizeLine := by rw [List.length_map]; omega
  have I3 : Inv X pins σ H1 { s1 with heap := h', toks := tk } := I2.kept (t' := tk) k
  exact ⟨.ref _, _, I3.laid (o := .tup (kvs.map (·.2))) (t' := tk) (fun b o e => Heap.get?_push_of_some _ e) (Nat.le_refl _) ⟨zl, acc.toList, rv, by rw [Array.toArray_toList]; exact IsTup.new _ _⟩, rfl, q _ (I3.hok.fresh (Nat.le_refl _))⟩
end
end OwV

namespace Rd
open PySem PySem.Spec PyProof.Rows L2 OwX
theorem itup' {σ : L2.St} {H : Hp} {K : PySem.W.Frag} {tl : TE} {R : It → Hp → Prop} (q : tl σ H fun x H1 => ∃ a, x = .ref a ∧ (∃ xs, SqT K H1 a xs) ∧ R (Itt K a) H1) : iTup K tl σ H R := q
end Rd
namespace OwW
open PySem L2 L2H OwX Rd Evl
def strOf1 : PyData → Option Str
  | .str x => some x
  | _ => none
def strsOf (ds : List PyData) : List Str := ds.filterMap strOf1
theorem strs_of : ∀ {ds : List PyData}, ds.all nameD = true → ds = (strsOf ds).map PyData.str
  | [], _ => rfl
  | .str x :: r, h => by
    have h2 : (nameB x && r.all nameD) = true := h
    have z := strs_of (Bool.and_eq_true_iff.mp h2).2
    show PyData.str x :: r = PyData.str x :: (strsOf r).map PyData.str
    rw [← z]
  | .none :: r, h => by simp [nameD] at h
  | .bool _ :: r, h => by simp [nameD] at h
  | .int _ :: r, h => by simp [nameD] at h
  | .list _ :: r, h => by simp [nameD] at h
  | .tuple _ :: r, h => by simp [nameD] at h
  | .dict _ :: r, h => by simp [nameD] at h
theorem dh_strs {H : Hp} : ∀ {vs : List V} {ns : List Str}, DhAll H vs (ns.map PyData.str) → vs = ns.map V.str
  | _, [], .nil => rfl
  | _, _ :: _, .cons h r => by
    cases h
    rw [dh_strs r]
    rfl
theorem units1 {k : Nat} {A : Around} (r : Room k A) : A.units + 1 < cLine := by
  have := r.units
  omega
section
variable {P : Program} {w : World} {K : PySem.W.Frag} {mg : Str → Option Value} {base : Heap}
abbrev sJust : Stmt := top 15
abbrev NJu : List Str := ["value", "keys", "key"]
def justB (ys : List Str) (kvs : List (Key × V)) : Bool := decide (kvs.length = ys.length) && ys.all (fun n => (valV kvs (Sum.inr n : Key)).isSome)
def spJust : Sp := fun vs H Q _ => ∃ (vv : V) (dv : PyData) (kl : Addr) (ys : List Str), vs = [vv, .ref kl] ∧ Dh H vv dv ∧ H kl = some (.lst (ys.map V.str)) ∧ ys.length ≤ 1000 ∧ (isD dv "dict" = false → ∀ H', Ex H H' → Q (.bl false) H') ∧
  ∀ (a : Addr) (kvs : List (Key × V)), vv = .ref a → H a = some (.dK kvs) → kvs.length ≤ 1000 ∧ ∀ H', Ex H H' → Q (.bl (justB ys kvs)) H'
theorem scJust : FnScope NJu ["value", "keys"] (defScope sJust) := ⟨rfl, rfl, rfl, by decide +kernel, rfl, by decide +kernel, by decide +kernel⟩
theorem ok_just {f : Addr} {fd : FuncData} (F : Fun K "has_just_keys" "has_just_keys" sJust f fd) (T : BltW mg) : FnOk P w K mg base CX0 1 f fd ["value", "keys"] spJust := by
  have nd := scJust.nd
  refine F.ok scJust (fun vs H Q E h => ?_) (fun cdv A outer s H vs Q E hr h => ⟨_, (pss_one (ps_ret (pe_and (pe_callB call_isi (by rfl) T.isinst (by decide +kernel) (pa_cons (pv 0) (pa_cons (pe_bltn (v := .ty "dict") (by rfl) T.dict (by decide +kernel) rfl) pa_nil))) (pe_and (pe_cmpR op_eq (pe_callB call_lenD (by rfl) T.len (by decide +kernel) (pa_cons (pv 0) pa_nil)) (pe_callB call_len_seq (by rfl) T.len (by decide +kernel) (pa_cons (pv 1) pa_nil)) (nomark _)) (pe_one (pe_callB (cr_all rfl) (by rfl) T.all (by decide +kernel) (pa_cons (pe_lc (own := [("key", 2)]) (g := gName 2) (tt := tYes) rfl nd (pi_list (pv 1)) (blkOk_by (own := [("key", 2)]) (N := NJu) (sc := defScope sJust) (by decide +kernel)) (fun _ _ _ _ _ => (pg_name (i := 2) nd rfl (Or.inl rfl))) (fun _ _ _ _ _ => pts_nil) (fun _ _ _ _ _ => (pe_cmp (pc_din (units1 hr) (pv 2) (pv 0))))) pa_nil))))))), ?_⟩)
  · obtain ⟨vv, dv, kl, ys, rfl, _⟩ := h
    rfl
  · obtain ⟨vv, dv, kl, ys, rfl, hv, hk, hz, k1, k2⟩ := h
    walk_at "rd"
    refine Rd.andv ?_
    walk_at "rd"
    refine Rd.isi hv (by decide) ⟨_, rfl, ?_⟩
    cases hv with
    | @dic a kvs kds hd0 hr3 hr4 =>
      obtain ⟨kz, k3⟩ := k2 a kvs rfl hd0
      refine Rd.iteT (by simp [isD, tyD]) (Rd.andv ?_)
      walk_at "rd"
      refine ⟨a, kvs, rfl, hd0, ?_⟩
      walk_at "rd"
      refine ⟨kl, _, rfl, Or.inl (SqL.of hk), ?_⟩
      refine Rd.eq rfl ⟨_, rfl, ?_⟩
      have lenE : decide (V.int (kvs.length : Int) = V.int ((ys.map V.str).length : Int)) = decide (kvs.length = ys.length) := by
        rw [List.length_map]
        exact decide_eq_decide.mpr ⟨fun y => by injection y with y; omega, fun y => by rw [y]⟩
      rw [lenE]
      cases c1 : decide (kvs.length = ys.length) with
      | false =>
        have z := k3 H (Ex.refl H)
        unfold justB at z
        rw [c1, Bool.false_and] at z
        exact z
      | true =>
        refine Rd.iteT rfl ?_
        walk_at "rd"
        refine Rd.lcm' (Rd.ilist' ?_)
        walk_at "rd"
        refine ⟨kl, rfl, ⟨_, SqL.of hk⟩, fun D hD => ?_⟩
        refine Rd.lc_mapV (walk_list (xs := ys.map V.str)) (fun i => V.bl ((valV kvs (Sum.inr (ys.getD i Str.empty) : Key)).isSome)) hD (by rw [List.length_map]; omega) (fun H' e => ex_l e (SqL.of hk)) (fun _ => rfl) (fun i y Ha Hb R hi ea y1 hR => ?_) (fun H3 e3 h3 => ?_)
        · obtain ⟨rfl, y2⟩ := y1
          rw [List.getElem?_map] at y2
          obtain ⟨z, hz2, rfl⟩ := Option.map_eq_some_iff.mp y2
          have ez : ys.getD i Str.empty = z := by rw [List.getD_eq_getElem?_getD, hz2]; rfl
          rw [ez] at hR
          show tVar 2 _ _ _
          refine Rd.var rfl ?_
          refine Rd.var rfl ?_
          exact ⟨a, _, rfl, DGet.k (k := (Sum.inr z : Key)) (ea _ _ hd0), hR _ (Ex.refl _)⟩
        · walk_at "rd"
          rw [bls] at h3
          refine ⟨_, _, rfl, SqL.of h3, ?_⟩
          have ea : (((List.range (ys.map V.str).length).map fun i => (valV kvs (Sum.inr (ys.getD i Str.empty) : Key)).isSome)).all id = ys.all (fun n => (valV kvs (Sum.inr n : Key)).isSome) := by
            rw [List.length_map, range_get (fun n => (valV kvs (Sum.inr n : Key)).isSome) Str.empty ys, List.all_map]
            rfl
          rw [ea]
          have z := k3 H3 e3
          unfold justB at z
          rw [c1, Bool.true_and] at z
          exact z
    | _ =>
      refine Rd.iteF (by simp [isD, tyD]) ?_
      exact k1 (by simp [isD, tyD]) H (Ex.refl H)
theorem all_perm {α : Type} {ys zs : List α} (h : ∀ z, z ∈ ys ↔ z ∈ zs) (p : α → Bool) : ys.all p = zs.all p := by
  rw [Bool.eq_iff_iff, List.all_eq_true, List.all_eq_true]
  exact ⟨fun a z hz => a z ((h z).mpr hz), fun a z hz => a z ((h z).mp hz)⟩
end
end OwW

namespace Rd
open PySem PySem.Spec PyProof.Rows L2 OwX
theorem for' {wi : TI} {g : TG} {tb : TS} {D : Ends} {σ : L2.St} {H : Hp} (q : wi σ H fun J H1 => ∃ W : Nat → Nat → L2.St → Hp → Prop, (∃ m, W 0 m σ H1) ∧ ∀ i m σ H, W i m σ H →
  (J.stop i H ∧ D.nx σ H) ∨ (J.go i H ∧ ∃ N : L2.St → Hp → Prop, (∀ σ' H', N σ' H' → ∃ m', m' < m ∧ W (i + 1) m' σ' H') ∧ ∀ x H', J.yld i H x H' → g x σ H' fun σ2 H2 => tb { D with nx := N, ct := N, bk := D.nx } σ2 H2)) : tFor wi g tb D σ H := q
theorem brk {D : Ends} {σ : L2.St} {H : Hp} (q : D.bk σ H) : tBreak D σ H := q
theorem par2 {i j : Nat} {D : Ends} {ta : TA} {σ : L2.St} {H : Hp} (q : ta σ H fun vs H1 => ∃ v w, vs = [v, w] ∧ D.nx ((σ.set i (some v)).set j (some w)) H1) : tPar i j ta D σ H := q
end Rd
namespace OwW
open PySem L2 L2H OwX Rd Evl
/-- the heap but for a -/
def wo (a : Addr) (H : Hp) : Hp := fun b => if b = a then none else H b
theorem wo_of {a b : Addr} {H : Hp} {o : HO} (h : H b = some o) (n : b ≠ a) : wo a H b = some o := (if_neg n).trans h
theorem wo_in (a : Addr) (H : Hp) : Ex (wo a H) H := fun b o h => by
  unfold wo at h
  split at h
  · cases h
  · exact h
theorem wo_ex {a : Addr} {H H' : Hp} (e : Ex H H') : Ex (wo a H) (wo a H') := fun b o h => by
  unfold wo at h ⊢
  split at h
  · cases h
  · rename_i n
    rw [if_neg n]
    exact e _ _ h
/-- from H to H' only the dice at a have been thrown, and new things have come -/
structure DX (a : Addr) (H H' : Hp) : Prop where
  ex : Ex (wo a H) (wo a H')
  at_ : ∃ l s n, DiceOk l s n ∧ H' a = some (dice l s n)
theorem DX.trans {a : Addr} {H H1 H2 : Hp} (x : DX a H H1) (y : DX a H1 H2) : DX a H H2 := ⟨x.ex.trans y.ex, y.at_⟩
theorem DX.of {a : Addr} {H H' : Hp} (e : Ex H H') (h : ∃ l s n, DiceOk l s n ∧ H a = some (dice l s n)) : DX a H H' := ⟨wo_ex e, let ⟨l, s, n, d, z⟩ := h; ⟨l, s, n, d, e _ _ z⟩⟩
theorem DX.then {a : Addr} {H H1 H2 : Hp} (x : DX a H H1) (e : Ex H1 H2) : DX a H H2 := x.trans (DX.of e x.at_)
theorem DX.throw {a : Addr} {H : Hp} {l s n : Int} (d : DiceOk l s n) : DX a H (upd H a (dice l s n)) := ⟨fun b o h => by
  unfold wo at h ⊢
  split at h
  · cases h
  · rename_i c
    rw [if_neg c, upd_ne c]
    exact h, ⟨l, s, n, d, upd_same⟩⟩
structure BltL (mg : Str → Option Value) : Prop where
  range : mg "range" = none
  isinst : mg "isinstance" = none
  str : mg "str" = none
  len : mg "len" = none
  list : mg "list" = none
def HasDice (H : Hp) (a : Addr) : Prop := ∃ l s n, DiceOk l s n ∧ H a = some (dice l s n)
theorem DX.mut {a D : Addr} {H H1 : Hp} {o : HO} (x : DX a H H1) (hD : H D = none) (Da : D ≠ a) : DX a H (upd H1 D o) := ⟨fun b u h => by
  have nb : b ≠ D := fun e => by
    have q := wo_in a H b u h
    rw [e, hD] at q
    cases q
  have q := x.ex b u h
  unfold wo at q ⊢
  rw [upd_ne nb]
  exact q, let ⟨l, s, n, d, z⟩ := x.at_; ⟨l, s, n, d, (upd_ne (Ne.symm Da)).trans z⟩⟩
theorem yes' {σ : L2.St} {H : Hp} {Q : Bool → Hp → Prop} (q : Q true H) : tYes σ H Q := q
theorem roll_dx {a : Addr} {t : Int} {H : Hp} {Q : VK} {E : XK} (hd : HasDice H a) (h0 : 0 < t) (h1 : t ≤ 1000000) (q : ∀ r H', 0 ≤ r → r < t → DX a H H' → Q (.int r) H') : spRoll [.ref a, .int t] H Q E := by
  obtain ⟨l, s, n, d, h⟩ := hd
  exact ⟨a, l, s, n, t, rfl, h, d, h0, h1, fun r l' s' n' r0 r1 d' => q r _ r0 r1 (DX.throw d')⟩
theorem pick_dx {K : PySem.W.Frag} {a b : Addr} {xs : List V} {H : Hp} {Q : VK} {E : XK} (hd : HasDice H a) (hb : wo a H b = some (.lst xs)) (h0 : 0 < xs.length) (h1 : xs.length ≤ 1000) (q : ∀ x H', x ∈ xs → DX a H H' → Q x H') : spPick K [.ref a, .ref b] H Q E := by
  obtain ⟨l, s, n, d, h⟩ := hd
  have nb : a ≠ b := fun e => by
    rw [← e] at hb
    unfold wo at hb
    rw [if_pos rfl] at hb
    cases hb
  exact ⟨a, b, l, s, n, xs, rfl, nb, h, d, wo_in a H b _ hb, h0, by omega, fun x l' s' n' hx d' => q x _ hx (DX.throw d')⟩
abbrev NM : List Str := ["_law_dice_here", "_law_items", "_law_left", "_law_found", "_law_turn"]
abbrev sMixed : Stmt := top 47
def spMixed : Sp := fun vs H Q _ => ∃ (a b : Addr) (xs : List V), vs = [.ref a, .ref b] ∧ HasDice H a ∧ wo a H b = some (.lst xs) ∧ xs.length ≤ 1000 ∧ ∀ p ys H', ys.Perm xs → DX a H H' → wo a H' p = some (.lst ys) → H p = none → Q (.ref p) H'
section
variable {P : Program} {w : World} {K : PySem.W.Frag} {mg : Str → Option Value} {base : Heap}
theorem fresh_ne {a p : Addr} {H : Hp} (hd : HasDice H a) (hp : H p = none) : p ≠ a := fun e => by
  obtain ⟨_, _, _, _, q⟩ := hd
  rw [e, q] at hp
  cases hp
theorem scMixed : FnScope NM ["_law_dice_here", "_law_items"] (defScope sMixed) := ⟨rfl, rfl, rfl, by decide +kernel, rfl, by decide +kernel, by decide +kernel⟩
theorem erase_perm' {α : Type} : ∀ (xs : List α) (k : Nat) (y : α), xs[k]? = some y → (y :: xs.eraseIdx k).Perm xs
  | x :: r, 0, y, h => by
    cases (show some x = some y from h)
    exact List.Perm.refl _
  | x :: r, k + 1, y, h => by
    have ih := erase_perm' r k y h
    exact (List.Perm.swap x y _).trans (ih.cons x)
theorem ok_mixed {f fr : Addr} {fd fdr : FuncData} (F : Fun K "_law_mixed" "_law_mixed" sMixed f fd) (FR : Fun K "_law_roll" "_law_roll" sRoll fr fdr) (gR : mg "_law_roll" = some (.ref fr)) (GR : FnOk P w K mg base CX0 1 fr fdr ["_law_dice_here", "_law_total"] spRoll) (T : BltL mg) : FnOk P w K mg base CX0 2 f fd ["_law_dice_here", "_law_items"] spMixed := by
  have nd := scMixed.nd
  have bR := rollBinds FR
  refine F.ok scMixed (fun vs H Q E h => ?_) (fun cdv A outer s H vs Q E hr h => ⟨_, (pss_cons (ps_par (i := 2) (j := 3) rfl nd rfl rfl (by decide) rfl rfl (pa_cons (pe_callTy call_list_of (by rfl) T.list (by decide +kernel) (pa_cons (pv 1) pa_nil)) (pa_cons (pe_lstN pa_nil) pa_nil)) rfl)
    (pss_cons (ps_for PassesOwn.never rfl (pi_range1 rfl T.range (pa_cons (pe_callB call_len_seq (by rfl) T.len (by decide +kernel) (pa_cons (pv 1) pa_nil)) pa_nil)) (pg_name (i := 4) nd rfl (Or.inl rfl)) (pss_one (ps_expr (pe_bm PySem.F.plainAttrs_list PySem.F.slot_list_append PySem.F.type_list_append mt_append (pv 3) (pa_cons (pe_bm PySem.F.plainAttrs_list PySem.F.slot_list_pop PySem.F.type_list_pop mt_popAt (pv 2) (pa_cons (pe_call GR (hr.mono (by decide)) (by rfl) gR FR.kp bR .nil pass0 (pa_cons (pv 0) (pa_cons (pe_callB call_len_seq (by rfl) T.len (by decide +kernel) (pa_cons (pv 2) pa_nil)) pa_nil))) pa_nil)) pa_nil)))))
    (pss_one (ps_ret (pv 3))))), ?_⟩)
  · obtain ⟨a, b, xs, rfl, _⟩ := h
    rfl
  · obtain ⟨a, b, xs, rfl, hd, hb, hz, k⟩ := h
    have hbH := wo_in a H b _ hb
    walk_at "rd"
    refine Rd.par2 ?_
    walk_at "rd"
    refine ⟨b, xs, rfl, Or.inl (SqL.of hbH), fun L hL => ?_⟩
    walk_at "rd"
    refine ⟨sz_of (by simp), fun G hG hGm => ?_⟩
    refine ⟨_, _, rfl, ?_⟩
    have La := fresh_ne hd hL
    have GL : G ≠ L := fun e => by
      rw [e, upd_same] at hG
      cases hG
    have hG0 : H G = none := by
      rw [upd_ne GL] at hG
      exact hG
    have Ga := fresh_ne hd hG0
    have x0 : DX a H (upd (upd H L (.lst xs)) G (.lst [])) := DX.of ((Ex.new hL).trans (Ex.new hG)) hd
    have gL : (upd (upd H L (.lst xs)) G (.lst [])) L = some (.lst xs) := (upd_ne (Ne.symm GL)).trans upd_same
    have gG : (upd (upd H L (.lst xs)) G (.lst [])) G = some (.lst []) := upd_same
    have gb : (upd (upd H L (.lst xs)) G (.lst [])) b = some (.lst xs) := wo_in a _ b _ (x0.ex _ _ hb)
    generalize upd (upd H L (.lst xs)) G (.lst []) = H2 at x0 gL gG gb ⊢
    walk_at "rd"
    refine Rd.for' (Rd.irng' ?_)
    walk_at "rd"
    refine ⟨b, xs, rfl, Or.inl (SqL.of gb), ?_⟩
    walk_at "rd"
    refine ⟨_, rfl, by omega, by omega, ?_⟩
    refine for_it walk_range (fun i σ H' => ∃ (t : Option V) (ls ys : List V), σ = [some (.ref a), some (.ref b), some (.ref L), some (.ref G), t] ∧ DX a H H' ∧ H' L = some (.lst ls) ∧ H' G = some (.lst ys) ∧ (ys ++ ls).Perm xs ∧ ys.length = i) ⟨none, xs, [], rfl, x0, gL, gG, List.Perm.refl _, rfl⟩ (fun _ _ _ _ _ => trivial) (fun i z σ H3 H4 hi hP hY => ?_) (fun σ H3 hP => ?_)
    · obtain ⟨t, ls, ys, rfl, x3, q1, q2, q3, q4⟩ := hP
      obtain ⟨rfl, rfl⟩ := hY
      have pl := q3.length_eq
      rw [List.length_append] at pl
      have hi' : i < xs.length := by
        have e : Int.toNat ((xs.length : Nat) : Int) = xs.length := rfl
        rw [e] at hi
        exact hi
      walk_at "rd"
      refine ⟨_, rfl, Or.inl ⟨rfl, _, SqL.of q2⟩, ?_⟩
      walk_at "rd"
      refine ⟨_, rfl, Or.inl ⟨rfl, _, SqL.of q1⟩, ?_⟩
      walk_at "rd"
      refine ⟨L, ls, rfl, Or.inl (SqL.of q1), ?_⟩
      walk_at "rd"
      refine roll_dx x3.at_ (by omega) (by omega) fun r H5 r0 r1 x5 => ?_
      obtain ⟨j, rfl⟩ := Int.eq_ofNat_of_zero_le r0
      have jl : j < ls.length := by omega
      have q1' : H5 L = some (.lst ls) := wo_in a _ _ _ (x5.ex _ _ (wo_of q1 La))
      have q2' : H5 G = some (.lst ys) := wo_in a _ _ _ (x5.ex _ _ (wo_of q2 Ga))
      walk_at "rd"
      refine ⟨L, ls, (j : Int), j, ls[j], rfl, rfl, q1', by omega, by omega, ?_, List.getElem?_eq_getElem jl, ?_⟩
      · unfold seqIndex?
        have e0 : ¬ ((j : Nat) : Int) < 0 := by omega
        simp [e0, jl]
      · walk_at "rd"
        refine ⟨G, ys, _, rfl, rfl, (upd_ne GL).trans q2', sz_lt (by omega), ?_⟩
        refine ⟨_, ls.eraseIdx j, ys ++ [ls[j]], rfl, ((x3.trans x5).mut hL La).mut hG0 Ga, (upd_ne (Ne.symm GL)).trans upd_same, upd_same, ?_, ?_⟩
        · rw [List.append_assoc]
          exact (List.Perm.append_left ys (erase_perm' ls j _ (List.getElem?_eq_getElem jl))).trans q3
        · rw [List.length_append, q4]
          rfl
    · obtain ⟨t, ls, ys, rfl, x3, q1, q2, q3, q4⟩ := hP
      walk_at "rd"
      have e : Int.toNat ((xs.length : Nat) : Int) = xs.length := rfl
      rw [e] at q4
      have pl := q3.length_eq
      rw [List.length_append] at pl
      have l0 : ls = [] := List.length_eq_zero_iff.mp (by omega)
      rw [l0, List.append_nil] at q3
      exact k G ys _ q3 x3 (wo_of q2 Ga) hG0
end
end OwW

/-! Comprehensions with any target. -/
namespace Rd
open PySem PySem.Spec PyProof.Rows L2 Evl
section
theorem lc_mapG {J : It} {n : Nat} {G : Hp → Prop} {Y : Nat → Hp → V → Hp → Prop} (wk : Walk J n G Y) (f : Nat → V) {g : TG} {te : TE} {js : List Nat} {σ : L2.St} {H1 : Hp} {D : Addr} {Qd : Hp → Prop} (hD : H1 D = none) (hn : n ≤ 100000) (hG : ∀ H', Ex H1 H' → G H')
    (hs : ∀ i x H H' (R : V → Hp → Prop), i < n → Ex H1 H → Y i H x H' → (∀ H4, Ex H H4 → R (f i) H4) → g x (wipe σ js) H' fun σ2 H2 => wipe σ2 js = wipe σ js ∧ te σ2 H2 R) (hd : ∀ H, Ex H1 H → H D = some (.lst ((List.range n).map f)) → Qd H) :
    ∃ W : Nat → Nat → Hp → Prop, (∃ m, W 0 m (upd H1 D (.lst []))) ∧ ∀ i m H, W i m H →
      (J.stop i H ∧ Qd H) ∨ (J.go i H ∧ ∃ Nx : Hp → Prop, (∀ H', Nx H' → ∃ m', m' < m ∧ W (i + 1) m' H') ∧ ∀ x H', J.yld i H x H' → g x (wipe σ js) H' fun σ2 H2 => wipe σ2 js = wipe σ js ∧ tYes σ2 H2 fun b H3 =>
        if b = true then te σ2 H3 fun y H4 => ∃ acc, H4 D = some (.lst acc) ∧ acc.length < sizeLine ∧ Nx (upd H4 D (.lst (acc ++ [y]))) else Nx H3) := by
  refine lc_it wk (fun i H => Ex H1 H ∧ H D = some (.lst ((List.range i).map f))) ⟨Ex.new hD, upd_same⟩ (fun i H hi p => hG H p.1) (fun i x H H' hi p y => ?_) (fun H p => hd H p.1 p.2)
  refine hs i x H H' _ hi p.1 y fun H4 e4 => ⟨_, e4 _ _ p.2, ?_, (p.1.trans e4).mut hD, ?_⟩
  · simp only [List.length_map, List.length_range]
    exact sz_lt (by omega)
  · rw [List.range_succ, List.map_append]
    exact upd_same
theorem lc_keepG {J : It} {n : Nat} {G : Hp → Prop} {Y : Nat → Hp → V → Hp → Prop} (wk : Walk J n G Y) (p : Nat → Bool) (f : Nat → V) {g : TG} {tt : TT} {te : TE} {js : List Nat} {σ : L2.St} {H1 : Hp} {D : Addr} {Qd : Hp → Prop} (hD : H1 D = none) (hn : n ≤ 100000) (hG : ∀ H', Ex H1 H' → G H')
    (hs : ∀ i x H H' (B : L2.St → Bool → Hp → Prop), i < n → Ex H1 H → Y i H x H' → (∀ σ2 H4, Ex H H4 → (p i = true → ∀ R : V → Hp → Prop, (∀ H5, Ex H H5 → R (f i) H5) → te σ2 H4 R) → B σ2 (p i) H4) → g x (wipe σ js) H' fun σ2 H2 => wipe σ2 js = wipe σ js ∧ tt σ2 H2 (B σ2)) (hd : ∀ H, Ex H1 H → H D = some (.lst (((List.range n).filter p).map f)) → Qd H) :
    ∃ W : Nat → Nat → Hp → Prop, (∃ m, W 0 m (upd H1 D (.lst []))) ∧ ∀ i m H, W i m H →
      (J.stop i H ∧ Qd H) ∨ (J.go i H ∧ ∃ Nx : Hp → Prop, (∀ H', Nx H' → ∃ m', m' < m ∧ W (i + 1) m' H') ∧ ∀ x H', J.yld i H x H' → g x (wipe σ js) H' fun σ2 H2 => wipe σ2 js = wipe σ js ∧ tt σ2 H2 fun b H3 =>
        if b = true then te σ2 H3 fun y H4 => ∃ acc, H4 D = some (.lst acc) ∧ acc.length < sizeLine ∧ Nx (upd H4 D (.lst (acc ++ [y]))) else Nx H3) := by
  refine lc_it wk (fun i H => Ex H1 H ∧ H D = some (.lst (((List.range i).filter p).map f))) ⟨Ex.new hD, upd_same⟩ (fun i H hi pv => hG H pv.1) (fun i x H H' hi pv y => ?_) (fun H pv => hd H pv.1 pv.2)
  have step : (List.range (i + 1)).filter p = (List.range i).filter p ++ (if p i = true then [i] else []) := by
    rw [List.range_succ, List.filter_append]
    by_cases c : p i = true <;> simp [c]
  refine hs i x H H' (fun σ2 b H3 => if b = true then te σ2 H3 fun y H4 => ∃ acc, H4 D = some (.lst acc) ∧ acc.length < sizeLine ∧ (Ex H1 (upd H4 D (.lst (acc ++ [y]))) ∧ (upd H4 D (.lst (acc ++ [y]))) D = some (.lst (((List.range (i + 1)).filter p).map f))) else (Ex H1 H3 ∧ H3 D = some (.lst (((List.range (i + 1)).filter p).map f)))) hi pv.1 y fun σ2 H3 e3 he => ?_
  by_cases c : p i = true
  · rw [if_pos c]
    rw [if_pos c] at step
    refine he c _ fun H4 e4 => ⟨_, e4 _ _ pv.2, ?_, (pv.1.trans e4).mut hD, ?_⟩
    · have z : ((List.range i).filter p).length ≤ i := Nat.le_trans (List.length_filter_le _ _) (Nat.le_of_eq List.length_range)
      rw [List.length_map]
      exact sz_lt (by omega)
    · rw [step, List.map_append]
      exact upd_same
  · rw [if_neg c]
    rw [if_neg c, List.append_nil] at step
    rw [step]
    exact ⟨pv.1.trans e3, e3 _ _ pv.2⟩
end
end Rd


namespace OwW
open PySem PyProof.Rows L2 L2H OwX Rd Evl
abbrev sIsTie : Stmt := top 24
abbrev sAsc : Stmt := top 25
/-- ties: an address and two texts each -/
abbrev TL := List (Addr × Str × Str)
def TA (H : Hp) (ys : TL) : Prop := ∀ p ∈ ys, H p.1 = some (.tup [V.str p.2.1, V.str p.2.2])
theorem TA.ex {H H' : Hp} {ys : TL} (t : TA H ys) (e : Ex H H') : TA H' ys := fun p hp => e _ _ (t p hp)
abbrev rf (ys : TL) : List V := ys.map fun p => V.ref p.1
structure BltB (mg : Str → Option Value) : Prop where
  len : mg "len" = none
  all : mg "all" = none
  zip : mg "zip" = none
  tuple : mg "tuple" = none
  sorted : mg "sorted" = none
  isinst : mg "isinstance" = none
/-- each one ahead of the next -/
def ascB {α : Type} (r : α → α → Bool) : List α → Bool
  | a :: b :: l => r a b && ascB r (b :: l)
  | _ => true
theorem ascB_all {α : Type} (r : α → α → Bool) (d : α) : ∀ l : List α, ascB r l = ((List.range (l.length - 1)).map fun i => r (l.getD i d) (l.getD (i + 1) d)).all id
  | [] => rfl
  | [a] => rfl
  | a :: b :: l => by
    have ih := ascB_all r d (b :: l)
    show (r a b && ascB r (b :: l)) = _
    rw [ih]
    show _ = ((List.range (l.length + 1)).map _).all id
    rw [List.range_succ_eq_map, List.map_cons, List.all_cons, List.map_map]
    rfl
def spIsTie : Sp := fun vs H Q _ => ∃ (p : Addr) (a b : Str), vs = [.ref p] ∧ H p = some (.tup [V.str a, V.str b]) ∧ nameB a = true ∧ nameB b = true ∧ ∀ H', Ex H H' → Q (.bl (OwL2.lt a b)) H'
def spAsc : Sp := fun vs H Q _ => ∃ p : Addr, vs = [.ref p] ∧ ((∃ ks : List Str, H p = some (.tup (ks.map V.str)) ∧ ks.length ≤ 1000 ∧ ∀ H', Ex H H' → Q (.bl (ascB OwL2.lt ks)) H') ∨
  ∃ ys : TL, H p = some (.tup (rf ys)) ∧ TA H ys ∧ ys.length ≤ 1000 ∧ ∀ H', Ex H H' → Q (.bl (ascB OwL2.ltP (ys.map (·.2)))) H')
theorem name_short {n : Str} (h : nameB n = true) : n.length ≤ 1000 := by
  unfold nameB at h
  simp only [Bool.and_eq_true, decide_eq_true_eq] at h
  omega
section
variable {P : Program} {w : World} {K : PySem.W.Frag} {mg : Str → Option Value} {base : Heap}
theorem scIsTie : FnScope ["value"] ["value"] (defScope sIsTie) := ⟨rfl, rfl, rfl, by decide +kernel, rfl, by decide +kernel, by decide +kernel⟩
theorem ok_isTie {f g : Addr} {fd gd : FuncData} (F : Fun K "is_tie" "is_tie" sIsTie f fd) (FN : Fun K "are_names" "are_names" sNames g gd) (gN : mg "are_names" = some (.ref g)) (GN : FnOk P w K mg base CX0 2 g gd ["value"] (spB namesD)) (T : BltB mg) : FnOk P w K mg base CX0 3 f fd ["value"] spIsTie := by
  have nd := scIsTie.nd
  have bN : Binds K gd ["value"] [] := FN.binds fun _ _ _ _ _ _ us hl => match us, hl with | [_], _ => rfl
  refine F.ok scIsTie (fun vs H Q E h => ?_) (fun cdv A outer s H vs Q E hr h => ⟨_, (pss_one (ps_ret (pe_and (pe_call GN (hr.mono (by decide)) (by rfl) gN FN.kp bN .nil pass0 (pa_cons (pv 0) pa_nil)) (pe_and (pe_cmpR op_eq (pe_callB call_len_seq (by rfl) T.len (by decide +kernel) (pa_cons (pv 0) pa_nil)) pe_int (nomark _)) (pe_one (pe_cmpR op_lt_str (pe_ix ix_tup (pv 0) pe_int (fun _ _ => rfl)) (pe_ix ix_tup (pv 0) pe_int (fun _ _ => rfl)) (nomark _))))))), ?_⟩)
  · obtain ⟨p, a, b, rfl, _⟩ := h
    rfl
  · obtain ⟨p, a, b, rfl, hp, na, nb, k⟩ := h
    walk_at "rd"
    refine Rd.andv ?_
    walk_at "rd"
    have nm : namesD (.tuple [.str a, .str b]) = true := by
      show (nameB a && (nameB b && true)) = true
      rw [na, nb]
      rfl
    refine ⟨_, .tuple [.str a, .str b], rfl, .tup hp (by simp) (.cons (.str a (name_short na)) (.cons (.str b (name_short nb)) .nil)), fun H1 e1 => ⟨_, rfl, ?_⟩⟩
    rw [nm]
    refine Rd.iteT rfl (Rd.andv ?_)
    walk_at "rd"
    have hp1 := e1 _ _ hp
    refine ⟨p, _, rfl, Or.inr (SqT.of hp1), ?_⟩
    walk_at "rd"
    refine Rd.eq rfl ⟨_, rfl, Rd.iteT rfl ?_⟩
    walk_at "rd"
    refine Rd.ixt (SqT.of hp1) rfl ?_
    walk_at "rd"
    refine Rd.ixt (SqT.of hp1) rfl ?_
    exact ⟨a, b, rfl, rfl, k H1 e1⟩
theorem scAsc : FnScope ["row", "one", "other"] ["row"] (defScope sAsc) := ⟨rfl, rfl, rfl, by decide +kernel, rfl, by decide +kernel, by decide +kernel⟩
theorem cut1 (xs : List V) : cutV xs (some 1) none = xs.drop 1 := by
  cases xs with
  | nil => rfl
  | cons x r =>
    unfold cutV
    have e1 : HT.sIx (x :: r).length 0 (some 1) = 1 := by simp [HT.sIx]
    have e2 : HT.sIx (x :: r).length (x :: r).length none = r.length + 1 := rfl
    rw [e1, e2]
    show (List.drop 0 r).take _ = r
    rw [List.drop_zero]
    exact List.take_of_length_le (by omega)
theorem walk_zipT {K : PySem.W.Frag} {a b : Addr} {xs ys : List V} {n : Nat} (hn : n = min xs.length ys.length) : Walk (RZ.ItzT K a b) n (fun H => SqT K H a xs ∧ SqT K H b ys) (YPair (fun i => xs[i]?) (fun i => ys[i]?)) :=
  ⟨fun i _ hi q => ⟨xs, ys, xs[i]'(by omega), ys[i]'(by omega), q.1, q.2, by simp, by simp⟩, fun _ q => ⟨xs, ys, q.1, q.2, by omega⟩, fun _ _ _ _ _ q y => by
    obtain ⟨T, x, z, e, f, g, hx, hz⟩ := y
    exact ⟨T, x, z, e, f, g, hx xs q.1, hz ys q.2⟩⟩
theorem ok_asc {f : Addr} {fd : FuncData} (F : Fun K "ascends" "ascends" sAsc f fd) (T : BltB mg) : FnOk P w K mg base CX0 1 f fd ["row"] spAsc := by
  have nd := scAsc.nd
  refine F.ok scAsc (fun vs H Q E h => ?_) (fun cdv A outer s H vs Q E hr h => ⟨_, (pss_one (ps_ret (pe_callB (cr_all rfl) (by rfl) T.all (by decide +kernel) (pa_cons (pe_lc (own := [("one", 1), ("other", 2)]) (g := gTup K 2 (gCons (gName 1) (gCons (gName 2) gNil))) (te := tOp (OwL2.rLtD K) (tVar 1) (tVar 2)) (tt := tYes) rfl nd (RZ.pi_zipA (by rfl) T.zip (pa_cons (pv 0) (pa_cons (pe_slice sl_tupA (pv 0) (po_some pe_int) po_none) pa_nil))) (blkOk_by (own := [("one", 1), ("other", 2)]) (N := ["row", "one", "other"]) (sc := defScope sAsc) (by decide +kernel)) (fun _ _ _ _ _ => (pg_tup rfl (pgs_cons (pg_name (i := 1) nd rfl (Or.inl rfl)) (pgs_cons (pg_name (i := 2) nd rfl (Or.inl rfl)) pgs_nil)))) (fun _ _ _ _ _ => pts_nil) (fun _ _ _ _ _ => (pe_cmpR (OwL2.op_ltD hr.units) (pv 1) (pv 2) (nomark _)))) pa_nil)))), ?_⟩)
  · obtain ⟨p, rfl, _⟩ := h
    rfl
  · obtain ⟨p, rfl, h⟩ := h
    have key : ∀ (xs : List V) (r : Nat → Bool), H p = some (.tup xs) → xs.length ≤ 1000 → (∀ i x y H' (R : V → Hp → Prop), i + 1 < xs.length → xs[i]? = some x → xs[i + 1]? = some y → Ex H H' → R (.bl (r i)) H' → OwL2.rLtD K x y H' R) → (∀ H', Ex H H' → Q (.bl (((List.range (xs.length - 1)).map r).all id)) H') →
        (tLc (RZ.iZipA K (tCons (tVar 0) (tCons (tSl (rSlA K) (tVar 0) (tPart (tC (.int 1))) tNoPart) tNil))) (gTup K 2 (gCons (gName 1) (gCons (gName 2) gNil))) tYes (tOp (OwL2.rLtD K) (tVar 1) (tVar 2)) [1, 2] (L2.start ["row", "one", "other"] [.ref p]) H fun x H1 => tNil (L2.start ["row", "one", "other"] [.ref p]) H1 fun xs H2 => rAll K (x :: xs) H2 Q) := by
      intro xs r hp hl hr' hq
      have zip : ∀ (q : Addr) (H1 : Hp), Ex H H1 → H1 q = some (.tup (xs.drop 1)) → ∀ D, H1 D = none → ∃ W : Nat → Nat → Hp → Prop, (∃ m, W 0 m (upd H1 D (.lst []))) ∧ ∀ i m H, W i m H → ((RZ.ItzT K p q).stop i H ∧ (tNil (L2.start ["row", "one", "other"] [.ref p]) H fun xs H2 => rAll K (.ref D :: xs) H2 Q)) ∨ ((RZ.ItzT K p q).go i H ∧ ∃ Nx : Hp → Prop, (∀ H', Nx H' → ∃ m', m' < m ∧ W (i + 1) m' H') ∧ ∀ x H', (RZ.ItzT K p q).yld i H x H' → gTup K 2 (gCons (gName 1) (gCons (gName 2) gNil)) x (wipe (L2.start ["row", "one", "other"] [.ref p]) [1, 2]) H' fun σ2 H2 => wipe σ2 [1, 2] = wipe (L2.start ["row", "one", "other"] [.ref p]) [1, 2] ∧ tYes σ2 H2 fun b H3 =>
          if b = true then tOp (OwL2.rLtD K) (tVar 1) (tVar 2) σ2 H3 fun y H4 => ∃ acc, H4 D = some (.lst acc) ∧ acc.length < sizeLine ∧ Nx (upd H4 D (.lst (acc ++ [y]))) else Nx H3) := by
        intro q H1 e1 hq1 D hD
        refine Rd.lc_mapG (walk_zipT (xs := xs) (ys := xs.drop 1) (n := xs.length - 1) (by rw [List.length_drop]; omega)) (fun i => V.bl (r i)) hD (by omega) (fun H' e => ⟨SqT.of (e _ _ (e1 _ _ hp)), SqT.of (e _ _ hq1)⟩) (fun i y Ha Hb R hi ea y1 hR => ?_) (fun H2 e2 h2 => ?_)
        · obtain ⟨t, a, b, rfl, ht, rfl, ha, hb⟩ := y1
          have hb' : xs[i + 1]? = some b := by
            have z : (List.drop 1 xs)[i]? = some b := hb
            rw [List.getElem?_drop, Nat.add_comm] at z
            exact z
          have et : Ex Ha (upd Ha t (.tup [a, b])) := Ex.new ht
          have hh : (upd Ha t (.tup [a, b])) t = some (.tup [a, b]) := upd_same
          generalize upd Ha t (.tup [a, b]) = Hb at et hh
          refine ⟨t, [a, b], rfl, SqT.of hh, rfl, a, [b], rfl, ?_⟩
          walk_at "rd"
          refine ⟨b, [], rfl, ?_⟩
          walk_at "rd"
          refine ⟨rfl, ?_⟩
          show _ ∧ _
          refine ⟨rfl, ?_⟩
          walk_at "rd"
          exact hr' i a b Hb R (by omega) ha hb' ((e1.trans ea).trans et) (hR Hb et)
        · walk_at "rd"
          rw [bls] at h2
          refine ⟨_, _, rfl, SqL.of h2, ?_⟩
          exact hq H2 (e1.trans e2)
      unfold tLc RZ.iZipA
      walk_at "rd"
      refine ⟨_, rfl, ?_⟩
      walk_at "rd"
      refine ⟨_, rfl, ?_⟩
      walk_at "rd"
      refine ⟨p, xs, rfl, SqT.of hp, fun hw => ?_, fun hw q hq0 => ?_⟩
      · have e0 : xs = [] := by
          have z := hw.1
          unfold HT.sIx at z
          simp at z
          exact z
        refine ⟨p, p, xs, xs.drop 1, rfl, Or.inr ⟨SqT.of hp, SqT.of (by rw [e0] at hp ⊢; exact hp), ?_⟩⟩
        exact zip p H (Ex.refl H) (by rw [e0] at hp ⊢; exact hp)
      · refine ⟨p, q, xs, xs.drop 1, rfl, Or.inr ⟨SqT.of (Ex.new hq0 _ _ hp), SqT.of (by rw [← cut1]; exact upd_same), ?_⟩⟩
        exact zip q _ (Ex.new hq0) (by rw [← cut1]; exact upd_same)
    walk_at "rd"
    rcases h with ⟨ks, hp, hl, k⟩ | ⟨ys, hp, ta, hl, k⟩
    · refine key (ks.map V.str) (fun i => OwL2.lt (ks.getD i "") (ks.getD (i + 1) "")) hp (by rw [List.length_map]; exact hl) (fun i x y H' R hi hx hy e hR => ?_) (fun H' e => ?_)
      · rw [List.getElem?_map] at hx hy
        cases ha : ks[i]? with
        | none => rw [ha] at hx; exact nomatch hx
        | some a =>
          cases hb : ks[i + 1]? with
          | none => rw [hb] at hy; exact nomatch hy
          | some b =>
            rw [ha] at hx
            rw [hb] at hy
            cases hx
            cases hy
            have ea : ks.getD i "" = a := by rw [List.getD_eq_getElem?_getD, ha]; rfl
            have eb : ks.getD (i + 1) "" = b := by rw [List.getD_eq_getElem?_getD, hb]; rfl
            rw [ea, eb] at hR
            exact ⟨.str a, .str b, .str a, .str b, rfl, (fun z => nomatch z), by simp [PyData.depth], by rw [PySem.W.dataLt_str]; exact hR⟩
      · rw [List.length_map, ← ascB_all OwL2.lt "" ks]
        exact k H' e
    · refine key (rf ys) (fun i => OwL2.ltP ((ys.map (·.2)).getD i (("" : Str), ("" : Str))) ((ys.map (·.2)).getD (i + 1) (("" : Str), ("" : Str)))) hp (by rw [List.length_map]; exact hl) (fun i x y H' R hi hx hy e hR => ?_) (fun H' e => ?_)
      · rw [List.getElem?_map] at hx hy
        cases ha : ys[i]? with
        | none => rw [ha] at hx; exact nomatch hx
        | some a =>
          cases hb : ys[i + 1]? with
          | none => rw [hb] at hy; exact nomatch hy
          | some b =>
            rw [ha] at hx
            rw [hb] at hy
            cases hx
            cases hy
            have ea : (ys.map (·.2)).getD i (("" : Str), ("" : Str)) = a.2 := by rw [List.getD_eq_getElem?_getD, List.getElem?_map, ha]; rfl
            have eb : (ys.map (·.2)).getD (i + 1) (("" : Str), ("" : Str)) = b.2 := by rw [List.getD_eq_getElem?_getD, List.getElem?_map, hb]; rfl
            rw [ea, eb] at hR
            have ha' := ta.ex e a (List.mem_of_getElem? ha)
            have hb' := ta.ex e b (List.mem_of_getElem? hb)
            exact ⟨.tuple [.str a.2.1, .str a.2.2], .tuple [.str b.2.1, .str b.2.2], .tup (SqT.of ha') (.cons (.str _) (.cons (.str _) .nil)), .tup (SqT.of hb') (.cons (.str _) (.cons (.str _) .nil)), rfl, (fun z => nomatch z), by simp [PyData.depth, PyData.depthAll], by rw [OwL2.dataLt_pairS]; exact hR⟩
      · have z := k H' e
        rw [ascB_all OwL2.ltP (("" : Str), ("" : Str)) (ys.map (·.2))] at z
        rw [List.length_map] at z ⊢
        exact z
end
end OwW


namespace OwW
open PySem PyProof.Rows L2 L2H OwX Rd Evl
abbrev sEnds : Stmt := top 27
abbrev NEn : List Str := ["ties", "place", "a", "b"]
/-- the tie has the place -/
def hits (x : Str) (p : Str × Str) : Bool := decide (p.1 = x) || decide (p.2 = x)
def far (x : Str) (p : Str × Str) : Str := if p.1 = x then p.2 else p.1
def endsL (ys : List (Str × Str)) (x : Str) : List Str := (ys.filter (hits x)).map (far x)
def spEnds : Sp := fun vs H Q _ => ∃ (p : Addr) (ys : TL) (x : Str), vs = [.ref p, .str x] ∧ H p = some (.tup (rf ys)) ∧ TA H ys ∧ ys.length < 64 ∧ ∀ es : List Str, es.Perm (endsL (ys.map (·.2)) x) → sortedS es = true → ∀ q H', Ex H H' → H' q = some (.tup (es.map V.str)) → Q (.ref q) H'
theorem range_filter {α : Type} (l : List α) (d : α) (g : α → Bool) : ((List.range l.length).filter fun i => g (l.getD i d)).map (fun i => l.getD i d) = l.filter g := by
  have e : (List.range l.length).map (fun i => l.getD i d) = l := by
    have z := range_get (fun a : α => a) d l
    rw [List.map_id'] at z
    exact z
  conv => rhs; rw [← e, List.filter_map]
  rfl
section
variable {P : Program} {w : World} {K : PySem.W.Frag} {mg : Str → Option Value} {base : Heap}
theorem scEnds : FnScope NEn ["ties", "place"] (defScope sEnds) := ⟨rfl, rfl, rfl, by decide +kernel, rfl, by decide +kernel, by decide +kernel⟩
theorem ok_ends {f : Addr} {fd : FuncData} (F : Fun K "_ends_off" "_ends_off" sEnds f fd) (T : BltB mg) : FnOk P w K mg base CX0 1 f fd ["ties", "place"] spEnds := by
  have nd := scEnds.nd
  refine F.ok scEnds (fun vs H Q E h => ?_) (fun cdv A outer s H vs Q E hr h => ⟨_, (pss_one (ps_ret (pe_callTy call_tuple_of (by rfl) T.tuple (by decide +kernel) (pa_cons (pe_callB cr_sortedS (by rfl) T.sorted (by decide +kernel) (pa_cons (pe_lc (own := [("a", 2), ("b", 3)]) (g := gTup K 2 (gCons (gName 2) (gCons (gName 3) gNil))) (tt := tTest (tOp (rIn K false) (tVar 1) (tTup (tCons (tVar 2) (tCons (tVar 3) tNil))))) rfl nd (pi_tup (pv 0)) (blkOk_by (own := [("a", 2), ("b", 3)]) (N := NEn) (sc := defScope sEnds) (by decide +kernel)) (fun _ _ _ _ _ => (pg_tup rfl (pgs_cons (pg_name (i := 2) nd rfl (Or.inl rfl)) (pgs_cons (pg_name (i := 3) nd rfl (Or.inl rfl)) pgs_nil)))) (fun _ _ _ _ _ => (pts_one (pt_cmpR op_in_seq (pv 1) (pe_tup (pa_cons (pv 2) (pa_cons (pv 3) pa_nil))) (by with_unfolding_all rfl)))) (fun _ _ _ _ _ => (pe_ifExp (pt_cmpR op_eq (pv 2) (pv 1) (nomark _)) (pv 3) (pv 2)))) pa_nil)) pa_nil)))), ?_⟩)
  · obtain ⟨p, ys, x, rfl, _⟩ := h
    rfl
  · obtain ⟨p, ys, x, rfl, hp, ta, hl, k⟩ := h
    walk_at "rd"
    refine Rd.lcm' ?_
    refine ⟨_, rfl, p, rfl, ⟨rf ys, SqT.of hp⟩, fun D hD => ?_⟩
    have lrf : (rf ys).length = ys.length := by rw [List.length_map]
    refine Rd.lc_keepG (walk_tup (xs := rf ys)) (fun i => hits x ((ys.map (·.2)).getD i (("" : Str), ("" : Str)))) (fun i => V.str (far x ((ys.map (·.2)).getD i (("" : Str), ("" : Str))))) hD (by omega) (fun H' e => ex_t e (SqT.of hp)) (fun i y Ha Hb B hi ea y1 hB => ?_) (fun H2 e2 h2 => ?_)
    · obtain ⟨rfl, y2⟩ := y1
      rw [List.getElem?_map] at y2
      cases ht : ys[i]? with
      | none => rw [ht] at y2; exact nomatch y2
      | some t =>
        rw [ht] at y2
        cases y2
        have et : (ys.map (·.2)).getD i (("" : Str), ("" : Str)) = t.2 := by rw [List.getD_eq_getElem?_getD, List.getElem?_map, ht]; rfl
        rw [et] at hB
        have ht' := ta.ex ea t (List.mem_of_getElem? ht)
        obtain ⟨ti, a, b⟩ := t
        refine ⟨ti, [.str a, .str b], rfl, SqT.of ht', rfl, .str a, [.str b], rfl, ?_⟩
        walk_at "rd"
        refine ⟨.str b, [], rfl, ?_⟩
        walk_at "rd"
        refine ⟨rfl, ?_⟩
        show _ ∧ _
        refine ⟨rfl, ?_⟩
        walk_at "rd"
        refine ⟨small64 (n := 2) (by decide), fun t ht2 => ⟨t, [.str a, .str b], rfl, Or.inr (SqT.of upd_same), rfl, rfl, _, rfl, ?_⟩⟩
        have eh : inV (.str x) [.str a, .str b] = hits x (a, b) := by
          show ((a == x) || ((b == x) || false)) = (decide (a = x) || decide (b = x))
          rw [Bool.or_false]
          by_cases c : a = x <;> by_cases d : b = x <;> simp [c, d]
        show B _ (inV (.str x) [.str a, .str b]) _
        rw [eh]
        refine hB _ _ (Ex.new ht2) fun _ R hR => ?_
        walk_at "rd"
        refine Rd.eq rfl ⟨_, rfl, ?_⟩
        refine ite2 (fun c => ?_) (fun c => ?_)
        · have c' : a = x := by
            have z := of_decide_eq_true c
            exact V.str.inj z
          walk_at "rd"
          have z := hR (upd Hb t (.tup [.str a, .str b])) (Ex.new ht2)
          have ef : far x (a, b) = b := if_pos c'
          rw [ef] at z
          exact z
        · have c' : ¬ a = x := fun z => c (decide_eq_true (by rw [z]))
          walk_at "rd"
          have z := hR (upd Hb t (.tup [.str a, .str b])) (Ex.new ht2)
          have ef : far x (a, b) = a := if_neg c'
          rw [ef] at z
          exact z
    · walk_at "rd"
      rw [lrf, ← List.length_map (as := ys) (·.2)] at h2
      have h2' : H2 D = some (.lst ((endsL (ys.map (·.2)) x).map V.str)) := by
        rw [h2]
        unfold endsL
        rw [← range_filter (ys.map (·.2)) (("" : Str), ("" : Str)) (hits x), List.map_map, List.map_map]
        rfl
      have ln : (endsL (ys.map (·.2)) x).length < 64 := by
        have z := List.length_filter_le (hits x) (ys.map (·.2))
        unfold endsL
        rw [List.length_map] at z ⊢
        omega
      refine ⟨D, endsL (ys.map (·.2)) x, rfl, SqL.of h2', ln, fun es q pm so hq => ?_⟩
      walk_at "rd"
      exact ⟨q, es.map V.str, rfl, Or.inl ⟨SqL.of upd_same, fun l hl => k es pm so l _ ((e2.trans (Ex.new hq)).trans (Ex.new hl)) upd_same⟩⟩
end
end OwW


namespace OwW
open PySem PyProof.Rows L2 L2H OwX Rd Evl
abbrev sReach : Stmt := top 26
abbrev NRc : List Str := ["ties", "place", "reached", "todo", "here", "other"]
/-- what is joined to x -/
inductive Rch (ts : List (Str × Str)) (x : Str) : Str → Prop
  | here : Rch ts x x
  | on {a b : Str} : Rch ts x a → b ∈ endsL ts a → Rch ts x b
def spReach : Sp := fun vs H Q _ => ∃ (p : Addr) (ys : TL) (x : Str) (ns : List Str), vs = [.ref p, .str x] ∧ H p = some (.tup (rf ys)) ∧ TA H ys ∧ ys.length < 64 ∧ ns.length < 64 ∧ x ∈ ns ∧ (∀ t ∈ ys, t.2.1 ∈ ns ∧ t.2.2 ∈ ns) ∧
  ∀ ks : List Str, sortedS ks = true → ks.Nodup → (∀ k, k ∈ ks ↔ Rch (ys.map (·.2)) x k) → ∀ q H', Ex H H' → H' q = some (.tup (ks.map V.str)) → Q (.ref q) H'
def kd (R : List Str) : List (Key × V) := R.map fun k => (Sum.inr k, V.bl true)
theorem kd_in (R : List Str) (k : Str) : (valV (kd R) (Sum.inr k)).isSome = decide (k ∈ R) := by
  induction R with
  | nil => rfl
  | cons r R ih =>
    by_cases c : r = k
    · rw [show kd (r :: R) = (Sum.inr r, V.bl true) :: kd R from rfl, valV_pos (by rw [c])]
      simp [c]
    · rw [show kd (r :: R) = (Sum.inr r, V.bl true) :: kd R from rfl, valV_neg (by simpa using c), ih]
      have c' : ¬ k = r := fun z => c z.symm
      simp [c']
theorem kd_put {R : List Str} {k : Str} (h : ¬ k ∈ R) : putK (kd R) (Sum.inr k) (V.bl true) = kd (R ++ [k]) := by
  have e : valV (kd R) (Sum.inr k) = none := by
    have z := kd_in R k
    rw [decide_eq_false h] at z
    exact Option.isSome_eq_false_iff.mp z |> Option.isNone_iff_eq_none.mp
  rw [putK_new _ e]
  unfold kd
  rw [List.map_append]
  rfl
theorem nodup_le : ∀ (R ns : List Str), R.Nodup → (∀ r ∈ R, r ∈ ns) → R.length ≤ ns.length
  | [], _, _, _ => Nat.zero_le _
  | r :: R, ns, nd, h => by
    obtain ⟨n1, n2⟩ := List.nodup_cons.mp nd
    have hr := h r List.mem_cons_self
    have ih := nodup_le R (ns.erase r) n2 fun s hs => (List.mem_erase_of_ne fun e => n1 (by rw [← e]; exact hs)).mpr (h s (List.mem_cons_of_mem _ hs))
    rw [List.length_erase_of_mem hr] at ih
    have z := List.length_pos_of_mem hr
    show R.length + 1 ≤ _
    omega
theorem ends_in {ys : TL} {ns : List Str} (h : ∀ t ∈ ys, t.2.1 ∈ ns ∧ t.2.2 ∈ ns) {a b : Str} (hb : b ∈ endsL (ys.map (·.2)) a) : b ∈ ns := by
  unfold endsL at hb
  obtain ⟨t, ht, rfl⟩ := List.mem_map.mp hb
  obtain ⟨u, hu, rfl⟩ := List.mem_map.mp (List.mem_filter.mp ht).1
  unfold far
  split
  · exact (h u hu).2
  · exact (h u hu).1
/-- reached and still to do -/
structure RI (H0 : Hp) (D1 D2 : Addr) (ts : List (Str × Str)) (x : Str) (ns R T : List Str) (H : Hp) : Prop where
  ex : Ex H0 H
  d1 : H D1 = some (.dK (kd R))
  d2 : H D2 = some (.lst (T.map V.str))
  nd : R.Nodup
  sub : ∀ r ∈ R, r ∈ ns
  rch : ∀ r ∈ R, Rch ts x r
  at_ : x ∈ R
  todo : ∀ t ∈ T, t ∈ R
  tl : T.length ≤ R.length
section
variable {P : Program} {w : World} {K : PySem.W.Frag} {mg : Str → Option Value} {base : Heap}
theorem scReach : FnScope NRc ["ties", "place"] (defScope sReach) := ⟨rfl, rfl, rfl, by decide +kernel, rfl, by decide +kernel, by decide +kernel⟩
theorem ok_reach {f g : Addr} {fd gd : FuncData} (F : Fun K "reached_along" "reached_along" sReach f fd) (FE : Fun K "_ends_off" "_ends_off" sEnds g gd) (gE : mg "_ends_off" = some (.ref g)) (GE : FnOk P w K mg base CX0 1 g gd ["ties", "place"] spEnds) (T : BltB mg) : FnOk P w K mg base CX0 2 f fd ["ties", "place"] spReach := by
  have nd := scReach.nd
  have bE : Binds K gd ["ties", "place"] [] := FE.binds fun _ _ _ _ _ _ us hl => match us, hl with | [_, _], _ => rfl
  refine F.ok scReach (fun vs H Q E h => ?_) (fun cdv A outer s H vs Q E hr h => ⟨_, (pss_cons (ps_set (i := 2) nd rfl (Or.inl rfl) (pe_disp (pps_cons (pv 1) pe_bl pps_nil) (by rfl) (by rfl) (fun z => by cases z) (by decide)))
    (pss_cons (ps_set (i := 3) nd rfl (Or.inl rfl) (pe_lst (pa_cons (pv 1) pa_nil)))
    (pss_cons (ps_while PassesOwn.never (pt_truth (pv 3) (fun _ => rfl)) (pss_cons (ps_set (i := 4) nd rfl (Or.inl rfl) (pe_bm0 PySem.F.plainAttrs_list PySem.F.slot_list_pop PySem.F.type_list_pop mt_pop (pv 3)))
    (pss_one (ps_for PassesOwn.never rfl (pi_tup (pe_call GE (hr.mono (by decide)) (by rfl) gE FE.kp bE .nil pass0 (pa_cons (pv 0) (pa_cons (pv 4) pa_nil)))) (pg_name (i := 5) nd rfl (Or.inl rfl)) (pss_one (ps_if (pt_cmp (pc_dnotin (units1 hr) (pv 5) (pv 2))) (pss_cons (ps_dput (units1 hr) (pv 2) (pv 5) pe_bl rfl)
    (pss_one (ps_expr (pe_bm PySem.F.plainAttrs_list PySem.F.slot_list_append PySem.F.type_list_append mt_append (pv 3) (pa_cons (pv 5) pa_nil))))) pss_nil))))))
    (pss_one (ps_ret (pe_callTy call_tuple_of (by rfl) T.tuple (by decide +kernel) (pa_cons (pe_callB (call_sortedD rfl) (by rfl) T.sorted (by decide +kernel) (pa_cons (pv 2) pa_nil)) pa_nil))))))), ?_⟩)
  · obtain ⟨p, ys, x, ns, rfl, _⟩ := h
    rfl
  · obtain ⟨p, ys, x, ns, rfl, hp, ta, hl, hn, hx, hin, k⟩ := h
    walk_at "rd"
    refine fun D1 hD1 => ?_
    walk_at "rd"
    refine ⟨_, rfl, ?_⟩
    walk_at "rd"
    refine ⟨upd_same, [(Sum.inr x, V.bl true)], rfl, Nat.le_add_left _ _, ?_⟩
    walk_at "rd"
    refine ⟨small64 (n := 1) (by decide), fun D2 hD2 => ?_⟩
    have n21 : D2 ≠ D1 := fun e => by
      rw [e, upd_same] at hD2
      exact nomatch hD2
    have hD2' : H D2 = none := by
      rw [upd_ne n21, upd_ne n21] at hD2
      exact hD2
    have I0 : RI H D1 D2 (ys.map (·.2)) x ns [x] [x] (upd (upd (upd H D1 (.dK [])) D1 (.dK (mergeK [] [(Sum.inr x, V.bl true)]))) D2 (.lst [V.str x])) :=
      ⟨(((Ex.refl H).mut hD1).mut hD1).mut hD2', by rw [upd_ne (Ne.symm n21), upd_same]; rfl, upd_same, by simp, fun r hr => by rw [List.mem_singleton.mp hr]; exact hx, fun r hr => by rw [List.mem_singleton.mp hr]; exact .here, List.mem_singleton.mpr rfl, fun r hr => hr, Nat.le_refl _⟩
    generalize upd (upd (upd H D1 (.dK [])) D1 (.dK (mergeK [] [(Sum.inr x, V.bl true)]))) D2 (.lst [V.str x]) = H2 at I0 ⊢
    clear hD2
    walk_at "rd"
    refine ⟨fun m σ H' => ∃ (R T : List Str) (h o : Option V), σ = [some (.ref p), some (.str x), some (.ref D1), some (.ref D2), h, o] ∧ RI H D1 D2 (ys.map (·.2)) x ns R T H' ∧ (∀ r ∈ R, r ∈ T ∨ ∀ b ∈ endsL (ys.map (·.2)) r, b ∈ R) ∧ m = 2 * (64 - R.length) + T.length, ⟨_, [x], [x], none, none, rfl, I0, fun r hr => Or.inl hr, rfl⟩, ?_⟩
    rintro m σ H' ⟨R, T, h, o, rfl, I, cl, rfl⟩
    walk_at "rd"
    refine ⟨_, Or.inl ⟨_, SqL.of I.d2, rfl⟩, ?_⟩
    rcases List.eq_nil_or_concat T with rfl | ⟨T', t, rfl⟩
    · rw [if_neg (by simp)]
      walk_at "rd"
      have rl := nodup_le R ns I.nd I.sub
      refine ⟨D1, kd R, R, rfl, .inl I.d1, by unfold kd; rw [List.map_map]; rfl, by omega, fun ks q pm so hq => ?_⟩
      walk_at "rd"
      refine ⟨q, ks.map V.str, rfl, Or.inl ⟨SqL.of upd_same, fun l hl2 => ?_⟩⟩
      refine k ks so (pm.symm.nodup I.nd) (fun z => ⟨fun hz => I.rch z (pm.mem_iff.mp hz), fun hz => pm.mem_iff.mpr ?_⟩) l _ ((I.ex.trans (Ex.new hq)).trans (Ex.new hl2)) upd_same
      induction hz with
      | here => exact I.at_
      | on _ hb ih => exact ((cl _ ih).resolve_left (fun z => nomatch z)) _ hb
    · rw [List.concat_eq_append] at I cl ⊢
      rw [if_pos (by simp)]
      refine ⟨_, fun σ' H' h => h, ?_⟩
      refine ⟨_, rfl, Or.inl ⟨rfl, _, SqL.of I.d2⟩, ?_⟩
      have dl : ((T' ++ [t]).map V.str).dropLast = T'.map V.str := by rw [List.map_append]; exact List.dropLast_concat
      refine ⟨D2, _, .str t, rfl, rfl, I.d2, ?_, ?_⟩
      · rw [List.map_append, List.length_append]
        simp
      rw [dl]
      have tR := I.todo t (List.mem_append_right _ List.mem_cons_self)
      have tl := I.tl
      rw [List.length_append] at tl
      have Iq : RI H D1 D2 (ys.map (·.2)) x ns R T' (upd H' D2 (.lst (T'.map V.str))) :=
        ⟨I.ex.mut hD2', by rw [upd_ne (Ne.symm n21)]; exact I.d1, upd_same, I.nd, I.sub, I.rch, I.at_, fun r hr => I.todo r (List.mem_append_left _ hr), by omega⟩
      generalize upd H' D2 (.lst (T'.map V.str)) = H3 at Iq ⊢
      walk_at "rd"
      with_reducible refine Rd.for' ?_
      show tCall _ _ _ _ _ _ _
      walk_at "rd"
      refine ⟨p, ys, t, rfl, Iq.ex _ _ hp, ta.ex Iq.ex, hl, fun es pm so q H4 e4 hq => ?_⟩
      have I4 : RI H D1 D2 (ys.map (·.2)) x ns R T' H4 := ⟨Iq.ex.trans e4, e4 _ _ Iq.d1, e4 _ _ Iq.d2, Iq.nd, Iq.sub, Iq.rch, Iq.at_, Iq.todo, Iq.tl⟩
      refine ⟨q, rfl, ⟨_, SqT.of hq⟩, ?_⟩
      have c0 : ∀ r ∈ R, r ∈ T' ∨ r = t ∨ ∀ b ∈ endsL (ys.map (·.2)) r, b ∈ R := fun r hr => by
        rcases cl r hr with z | z
        · rcases List.mem_append.mp z with z | z
          · exact Or.inl z
          · exact Or.inr (Or.inl (List.mem_singleton.mp z))
        · exact Or.inr (Or.inr z)
      refine for_it (walk_tup (xs := es.map V.str)) (fun i σ H' => ∃ (R2 T2 : List Str) (o : Option V), σ = [some (.ref p), some (.str x), some (.ref D1), some (.ref D2), some (.str t), o] ∧ RI H D1 D2 (ys.map (·.2)) x ns R2 T2 H' ∧ H' q = some (.tup (es.map V.str)) ∧ (∀ r ∈ R, r ∈ R2) ∧ (∀ r ∈ R2, r ∈ T2 ∨ r = t ∨ ∀ b ∈ endsL (ys.map (·.2)) r, b ∈ R2) ∧ (∀ (j : Nat) (b : Str), j < i → es[j]? = some b → b ∈ R2) ∧ 2 * (64 - R2.length) + T2.length ≤ 2 * (64 - R.length) + T'.length)
        ⟨R, T', o, rfl, I4, hq, fun _ h => h, c0, fun _ _ h => absurd h (Nat.not_lt_zero _), Nat.le_refl _⟩ (fun i σ H' _ hP => ?_) (fun i z σ H5 H6 hi hP hY => ?_) (fun σ H5 hP => ?_)
      · obtain ⟨R2, T2, o, rfl, I5, hq5, _⟩ := hP
        exact SqT.of hq5
      · obtain ⟨R2, T2, o, rfl, I5, hq5, sR, c5, d5, me⟩ := hP
        obtain ⟨rfl, hz⟩ := hY
        rw [List.getElem?_map] at hz
        cases hb : es[i]? with
        | none => rw [hb] at hz; exact nomatch hz
        | some b =>
          rw [hb] at hz
          cases hz
          have bE' : b ∈ endsL (ys.map (·.2)) t := pm.mem_iff.mp (List.mem_of_getElem? hb)
          have bn := ends_in hin bE'
          have rl := nodup_le R2 ns I5.nd I5.sub
          have t2 := I5.tl
          walk_at "rd"
          refine ⟨_, rfl, ?_⟩
          walk_at "rd"
          refine ⟨D1, _, rfl, DGet.k (k := Sum.inr b) I5.d1, ?_⟩
          rw [kd_in]
          by_cases c : b ∈ R2
          · rw [decide_eq_true c]
            walk_at "rd"
            rw [if_neg (by decide)]
            walk_at "rd"
            refine ⟨R2, T2, _, rfl, I5, hq5, sR, c5, fun j b' hj hb' => ?_, me⟩
            rcases Nat.lt_or_eq_of_le (Nat.le_of_lt_succ hj) with z | z
            · exact d5 j b' z hb'
            · subst z
              rw [hb] at hb'
              cases hb'
              exact c
          · rw [decide_eq_false c]
            walk_at "rd"
            rw [if_pos (by decide)]
            walk_at "rd"
            refine ⟨_, rfl, ?_⟩
            walk_at "rd"
            refine ⟨D1, _, rfl, DPut.k (k := Sum.inr b) I5.d1 ?_, ?_⟩
            · unfold kd
              rw [List.length_map]
              exact sz_lt (by omega)
            rw [kd_put c]
            walk_at "rd"
            have nq1 : q ≠ D1 := fun e => by
              rw [e, I5.d1] at hq5
              exact nomatch hq5
            have nq2 : q ≠ D2 := fun e => by
              rw [e, I5.d2] at hq5
              exact nomatch hq5
            have g1 : (upd H6 D1 (.dK (kd (R2 ++ [b])))) D1 = some (.dK (kd (R2 ++ [b]))) := upd_same
            have g2 : (upd H6 D1 (.dK (kd (R2 ++ [b])))) D2 = some (.lst (T2.map V.str)) := (upd_ne n21).trans I5.d2
            have gq : (upd H6 D1 (.dK (kd (R2 ++ [b])))) q = some (.tup (es.map V.str)) := (upd_ne nq1).trans hq5
            have ge : Ex H (upd H6 D1 (.dK (kd (R2 ++ [b])))) := I5.ex.mut hD1
            generalize upd H6 D1 (.dK (kd (R2 ++ [b]))) = H7 at g1 g2 gq ge ⊢
            refine ⟨_, rfl, Or.inl ⟨rfl, _, SqL.of g2⟩, ?_⟩
            walk_at "rd"
            refine ⟨D2, T2.map V.str, .str b, rfl, rfl, g2, ?_, ?_⟩
            · rw [List.length_map]
              exact sz_lt (by omega)
            have nd2 : (R2 ++ [b]).Nodup := List.nodup_append.mpr ⟨I5.nd, by simp, fun a ha c' hc e => c (by rw [← List.mem_singleton.mp hc, ← e]; exact ha)⟩
            have sub2 : ∀ r ∈ R2 ++ [b], r ∈ ns := fun r hr => by
              rcases List.mem_append.mp hr with z | z
              · exact I5.sub r z
              · rw [List.mem_singleton.mp z]
                exact bn
            have rl2 := nodup_le _ ns nd2 sub2
            rw [List.length_append] at rl2
            have rl3 : R2.length + 1 ≤ ns.length := rl2
            refine ⟨R2 ++ [b], T2 ++ [b], _, rfl, ⟨ge.mut hD2', (upd_ne (Ne.symm n21)).trans g1, by rw [List.map_append]; exact upd_same, nd2, sub2, fun r hr => ?_, List.mem_append_left _ I5.at_, fun r hr => ?_, ?_⟩, (upd_ne nq2).trans gq, fun r hr => List.mem_append_left _ (sR r hr), fun r hr => ?_, fun j b' hj hb' => ?_, ?_⟩
            · rcases List.mem_append.mp hr with z | z
              · exact I5.rch r z
              · rw [List.mem_singleton.mp z]
                exact .on (I5.rch t (sR t tR)) bE'
            · rcases List.mem_append.mp hr with z | z
              · exact List.mem_append_left _ (I5.todo r z)
              · exact List.mem_append_right _ z
            · rw [List.length_append, List.length_append]
              exact Nat.add_le_add_right t2 _
            · rcases List.mem_append.mp hr with z | z
              · rcases c5 r z with y | y | y
                · exact Or.inl (List.mem_append_left _ y)
                · exact Or.inr (Or.inl y)
                · exact Or.inr (Or.inr fun b' hb' => List.mem_append_left _ (y b' hb'))
              · exact Or.inl (List.mem_append_right _ z)
            · rcases Nat.lt_or_eq_of_le (Nat.le_of_lt_succ hj) with z | z
              · exact List.mem_append_left _ (d5 j b' z hb')
              · subst z
                rw [hb] at hb'
                cases hb'
                exact List.mem_append_right _ (List.mem_singleton.mpr rfl)
            · rw [List.length_append, List.length_append]
              show 2 * (64 - (R2.length + 1)) + (T2.length + 1) ≤ _
              omega
      · obtain ⟨R2, T2, o, rfl, I5, hq5, sR, c5, d5, me⟩ := hP
        rw [List.length_map] at d5
        refine ⟨_, ?_, R2, T2, _, o, rfl, I5, fun r hr => ?_, rfl⟩
        · rw [List.length_append]
          show _ < _ + (_ + 1)
          omega
        · rcases c5 r hr with z | z | z
          · exact Or.inl z
          · subst z
            refine Or.inr fun b hb => ?_
            obtain ⟨j, hj⟩ := List.getElem?_of_mem (pm.mem_iff.mpr hb)
            exact d5 j b (List.getElem?_eq_some_iff.mp hj).1 hj
          · exact Or.inr z
end
end OwW

namespace OwW
open PySem PyProof.Rows L2 L2H OwX Rd Evl
theorem lt_irr (a : Str) : OwL2.lt a a = false := decide_eq_false (List.lt_irrefl _)
theorem lt_tr {a b c : Str} (h : OwL2.lt a b = true) (g : OwL2.lt b c = true) : OwL2.lt a c = true :=
  decide_eq_true (List.lt_trans (of_decide_eq_true h) (of_decide_eq_true g))
theorem str_ext {a b : Str} (h : a.cps.toList = b.cps.toList) : a = b := by
  obtain ⟨⟨x⟩⟩ := a
  obtain ⟨⟨y⟩⟩ := b
  cases h
  rfl
theorem lt_tot {a b : Str} (h : OwL2.lt a b = false) (n : a ≠ b) : OwL2.lt b a = true := by
  have h' : ¬ a.cps.toList < b.cps.toList := of_decide_eq_false h
  refine decide_eq_true (Decidable.byContradiction fun g => n (str_ext ?_))
  exact List.le_antisymm (List.not_lt.mp g) (List.not_lt.mp h')
theorem ascB_of {α : Type} {r : α → α → Bool} : ∀ {l : List α}, l.Pairwise (fun a b => r a b = true) → ascB r l = true
  | [], _ => rfl
  | [_], _ => rfl
  | a :: b :: l, h => by
    obtain ⟨h1, h2⟩ := List.pairwise_cons.mp h
    show (r a b && ascB r (b :: l)) = true
    rw [h1 b List.mem_cons_self, ascB_of h2]
    rfl
theorem ascB_pw {α : Type} {r : α → α → Bool} (tr : ∀ {a b c}, r a b = true → r b c = true → r a c = true) : ∀ {l : List α}, ascB r l = true → l.Pairwise (fun a b => r a b = true)
  | [], _ => List.Pairwise.nil
  | [_], _ => List.Pairwise.cons (fun _ h => nomatch h) List.Pairwise.nil
  | a :: b :: l, h => by
    have h' : (r a b && ascB r (b :: l)) = true := h
    rw [Bool.and_eq_true] at h'
    have ih := ascB_pw @tr h'.2
    refine List.pairwise_cons.mpr ⟨fun c hc => ?_, ih⟩
    rcases List.mem_cons.mp hc with rfl | hc
    · exact h'.1
    · exact tr h'.1 ((List.pairwise_cons.mp ih).1 c hc)
theorem asc_sorted : ∀ {l : List Str}, sortedS l = true → l.Nodup → ascB OwL2.lt l = true
  | [], _, _ => rfl
  | [_], _, _ => rfl
  | a :: b :: l, h, n => by
    have h' : (!Spec.ltCps b.cps.toList a.cps.toList && risingS b l) = true := h
    rw [Bool.and_eq_true] at h'
    obtain ⟨n1, n2⟩ := List.nodup_cons.mp n
    have ih := asc_sorted (l := b :: l) h'.2 n2
    show (OwL2.lt a b && ascB OwL2.lt (b :: l)) = true
    rw [ih, Bool.and_true]
    refine lt_tot (a := b) (b := a) ?_ fun e => n1 (by rw [← e]; exact List.mem_cons_self)
    have z := h'.1
    rw [Bool.not_eq_true', ltCps_eq] at z
    exact z
theorem asc_eq : ∀ {l m : List Str}, l.Pairwise (fun a b => OwL2.lt a b = true) → m.Pairwise (fun a b => OwL2.lt a b = true) → (∀ k, k ∈ l ↔ k ∈ m) → l = m
  | [], [], _, _, _ => rfl
  | [], b :: m, _, _, h => nomatch (h b).mpr List.mem_cons_self
  | a :: l, [], _, _, h => nomatch (h a).mp List.mem_cons_self
  | a :: l, b :: m, hl, hm, h => by
    obtain ⟨l1, l2⟩ := List.pairwise_cons.mp hl
    obtain ⟨m1, m2⟩ := List.pairwise_cons.mp hm
    have ab : a = b := by
      rcases List.mem_cons.mp ((h a).mp List.mem_cons_self) with e | e
      · exact e
      · rcases List.mem_cons.mp ((h b).mpr List.mem_cons_self) with f | f
        · exact f.symm
        · have z := lt_tr (m1 a e) (l1 b f)
          rw [lt_irr] at z
          exact nomatch z
    subst ab
    rw [asc_eq l2 m2 fun k => ⟨fun hk => ?_, fun hk => ?_⟩]
    · rcases List.mem_cons.mp ((h k).mp (List.mem_cons_of_mem _ hk)) with e | e
      · have z := l1 k hk
        rw [e, lt_irr] at z
        exact nomatch z
      · exact e
    · rcases List.mem_cons.mp ((h k).mpr (List.mem_cons_of_mem _ hk)) with e | e
      · have z := m1 k hk
        rw [e, lt_irr] at z
        exact nomatch z
      · exact e
theorem ltP_tr {a b c : Str × Str} (h : OwL2.ltP a b = true) (g : OwL2.ltP b c = true) : OwL2.ltP a c = true := by
  unfold OwL2.ltP at h g ⊢
  by_cases e : a.1 = b.1
  · rw [if_pos e] at h
    by_cases f : b.1 = c.1
    · rw [if_pos f] at g
      rw [if_pos (e.trans f)]
      exact lt_tr h g
    · rw [if_neg f] at g
      rw [if_neg (fun z => f (e.symm.trans z)), e]
      exact g
  · rw [if_neg e] at h
    by_cases f : b.1 = c.1
    · rw [if_pos f] at g
      rw [if_neg (fun z => e (z.trans f.symm)), ← f]
      exact h
    · rw [if_neg f] at g
      have z := lt_tr h g
      rw [if_neg (fun y => by rw [y, lt_irr] at z; exact nomatch z)]
      exact z
/-- places and ties of a web -/
structure WebOk (ks : List Str) (ts : List (Str × Str)) : Prop where
  names : ∀ k ∈ ks, nameB k = true
  two : 2 ≤ ks.length
  nine : ks.length ≤ 9
  asc : ks.Pairwise (fun a b => OwL2.lt a b = true)
  ends : ∀ t ∈ ts, t.1 ∈ ks ∧ t.2 ∈ ks ∧ OwL2.lt t.1 t.2 = true
  few : ts.length ≤ 18
  tasc : ts.Pairwise (fun a b => OwL2.ltP a b = true)
  join : ∀ k ∈ ks, Rch ts (ks.getD 0 "") k
theorem rch_in {ks : List Str} {ts : List (Str × Str)} (h : ∀ t ∈ ts, t.1 ∈ ks ∧ t.2 ∈ ks ∧ OwL2.lt t.1 t.2 = true) {x k : Str} (hx : x ∈ ks) (r : Rch ts x k) : k ∈ ks := by
  induction r with
  | here => exact hx
  | on _ hb _ =>
    unfold endsL at hb
    obtain ⟨t, ht, rfl⟩ := List.mem_map.mp hb
    have z := h t (List.mem_filter.mp ht).1
    unfold far
    split
    · exact z.2.1
    · exact z.1
theorem WebOk.reached {ks : List Str} {ts : List (Str × Str)} (W : WebOk ks ts) {l : List Str} (so : sortedS l = true) (nd : l.Nodup) (h : ∀ k, k ∈ l ↔ Rch ts (ks.getD 0 "") k) : l = ks := by
  refine asc_eq (ascB_pw (r := OwL2.lt) (fun h g => lt_tr h g) (asc_sorted so nd)) W.asc fun k => ⟨fun hk => ?_, fun hk => (h k).mpr (W.join k hk)⟩
  refine rch_in W.ends ?_ ((h k).mp hk)
  have z := W.two
  cases ks with
  | nil => exact absurd z (by decide)
  | cons a r => exact List.mem_cons_self
end OwW


namespace OwW
open PySem PyProof.Rows L2 L2H OwX Rd Evl
abbrev sPlaces : Stmt := top 29
abbrev sTies : Stmt := top 30
abbrev sIsWeb : Stmt := top 28
abbrev NTi : List Str := ["places", "value", "a", "b", "tie"]
/-- places at p, ties at q -/
structure WebAt (H : Hp) (p q : Addr) (ks : List Str) (ys : TL) : Prop where
  ps : H p = some (.tup (ks.map V.str))
  ts : H q = some (.tup (rf ys))
  ta : TA H ys
theorem WebAt.ex {H H' : Hp} {p q : Addr} {ks : List Str} {ys : TL} (w : WebAt H p q ks ys) (e : Ex H H') : WebAt H' p q ks ys := ⟨e _ _ w.ps, e _ _ w.ts, w.ta.ex e⟩
def spPlaces : Sp := fun vs H Q _ => ∃ (p q : Addr) (ks : List Str) (ys : TL), vs = [.ref p] ∧ WebAt H p q ks ys ∧ WebOk ks (ys.map (·.2)) ∧ ∀ H', Ex H H' → Q (.bl true) H'
def spWebT : Sp := fun vs H Q _ => ∃ (p q : Addr) (ks : List Str) (ys : TL), vs = [.ref p, .ref q] ∧ WebAt H p q ks ys ∧ WebOk ks (ys.map (·.2)) ∧ ∀ H', Ex H H' → Q (.bl true) H'
theorem dhS {H : Hp} : ∀ {ks : List Str}, (∀ k ∈ ks, nameB k = true) → DhAll H (ks.map V.str) (ks.map PyData.str)
  | [], _ => .nil
  | k :: ks, h => .cons (.str k (name_short (h k List.mem_cons_self))) (dhS fun z hz => h z (List.mem_cons_of_mem _ hz))
theorem dhT {H : Hp} {ks : List Str} (hk : ∀ k ∈ ks, nameB k = true) : ∀ {ys : TL}, TA H ys → (∀ t ∈ ys.map (·.2), t.1 ∈ ks ∧ t.2 ∈ ks) → DhAll H (rf ys) (ys.map fun t => PyData.tuple [.str t.2.1, .str t.2.2])
  | [], _, _ => .nil
  | t :: ys, ta, h => by
    have z := h t.2 List.mem_cons_self
    exact .cons (.tup (ta t List.mem_cons_self) (by simp) (.cons (.str _ (name_short (hk _ z.1))) (.cons (.str _ (name_short (hk _ z.2))) .nil))) (dhT hk (fun y hy => ta y (List.mem_cons_of_mem _ hy)) fun y hy => h y (List.mem_cons_of_mem _ hy))
theorem flat_strs (ks : List Str) : (ks.map V.str).all flatV = true := by
  rw [List.all_eq_true]
  intro v hv
  obtain ⟨k, _, rfl⟩ := List.mem_map.mp hv
  rfl
theorem in_strs {ks : List Str} {x : Str} (h : x ∈ ks) : inV (.str x) (ks.map V.str) = true := by
  unfold inV
  rw [List.any_eq_true]
  exact ⟨.str x, List.mem_map.mpr ⟨x, h, rfl⟩, by show (x == x) = true; simp⟩
theorem names_all : ∀ {ks : List Str}, (∀ k ∈ ks, nameB k = true) → namesD (.tuple (ks.map PyData.str)) = true := fun {ks} h => by
  show (ks.map PyData.str).all nameD = true
  rw [List.all_eq_true]
  intro d hd
  obtain ⟨k, hk, rfl⟩ := List.mem_map.mp hd
  exact h k hk
section
variable {P : Program} {w : World} {K : PySem.W.Frag} {mg : Str → Option Value} {base : Heap}
theorem scPlaces : FnScope ["value"] ["value"] (defScope sPlaces) := ⟨rfl, rfl, rfl, by decide +kernel, rfl, by decide +kernel, by decide +kernel⟩
theorem ok_places {f g l : Addr} {fd gd ld : FuncData} {tM : Tok} (F : Fun K "_are_places" "_are_places" sPlaces f fd) (FN : Fun K "are_names" "are_names" sNames g gd) (gN : mg "are_names" = some (.ref g)) (GN : FnOk P w K mg base CX0 2 g gd ["value"] (spB namesD))
    (FA : Fun K "ascends" "ascends" sAsc l ld) (gA : mg "ascends" = some (.ref l)) (GA : FnOk P w K mg base CX0 1 l ld ["row"] spAsc) (gM : mg "MAX_PLACES" = some (.int 9 tM)) (T : BltB mg) : FnOk P w K mg base CX0 3 f fd ["value"] spPlaces := by
  have nd := scPlaces.nd
  have bN : Binds K gd ["value"] [] := FN.binds fun _ _ _ _ _ _ us hl => match us, hl with | [_], _ => rfl
  have bA : Binds K ld ["row"] [] := FA.binds fun _ _ _ _ _ _ us hl => match us, hl with | [_], _ => rfl
  refine F.ok scPlaces (fun vs H Q E h => ?_) (fun cdv A outer s H vs Q E hr h => ⟨_, (pss_one (ps_ret (pe_and (pe_call GN (hr.mono (by decide)) (by rfl) gN FN.kp bN .nil pass0 (pa_cons (pv 0) pa_nil)) (pe_and (pe_chain op_le op_le pe_int (pe_callB call_len_seq (by rfl) T.len (by decide +kernel) (pa_cons (pv 0) pa_nil)) (pe_glob (v := .int 9) (by rfl) gM ⟨_, rfl⟩)) (pe_one (pe_call GA (hr.mono (by decide)) (by rfl) gA FA.kp bA .nil pass0 (pa_cons (pv 0) pa_nil))))))), ?_⟩)
  · obtain ⟨p, q, ks, ys, rfl, _⟩ := h
    rfl
  · obtain ⟨p, q, ks, ys, rfl, wa, ok, k⟩ := h
    walk_at "rd"
    refine Rd.andv ?_
    walk_at "rd"
    have n9 := ok.nine
    have n2 := ok.two
    refine ⟨_, .tuple (ks.map PyData.str), rfl, .tup wa.ps (by rw [List.length_map]; omega) (dhS ok.names), fun H1 e1 => ⟨_, rfl, ?_⟩⟩
    rw [names_all ok.names]
    refine Rd.iteT rfl (Rd.andv ?_)
    walk_at "rd"
    refine Rd.chain ?_
    walk_at "rd"
    refine ⟨p, _, rfl, Or.inr (SqT.of (e1 _ _ wa.ps)), ?_⟩
    refine Rd.ii ⟨_, rfl, ?_⟩
    refine Rd.iteT (decide_eq_true (by rw [List.length_map]; omega)) ?_
    walk_at "rd"
    refine Rd.iteT (decide_eq_true (by rw [List.length_map]; omega)) ?_
    walk_at "rd"
    refine ⟨p, rfl, Or.inl ⟨ks, e1 _ _ wa.ps, by omega, fun H2 e2 => ?_⟩⟩
    have z := k H2 (e1.trans e2)
    rw [ascB_of (r := OwL2.lt) ok.asc]
    exact z
theorem scTies : FnScope NTi ["places", "value"] (defScope sTies) := ⟨rfl, rfl, rfl, by decide +kernel, rfl, by decide +kernel, by decide +kernel⟩
theorem ok_ties {f g l : Addr} {fd gd ld : FuncData} {tM : Tok} (F : Fun K "_are_ties" "_are_ties" sTies f fd) (FI : Fun K "is_tie" "is_tie" sIsTie g gd) (gI : mg "is_tie" = some (.ref g)) (GI : FnOk P w K mg base CX0 3 g gd ["value"] spIsTie)
    (FA : Fun K "ascends" "ascends" sAsc l ld) (gA : mg "ascends" = some (.ref l)) (GA : FnOk P w K mg base CX0 1 l ld ["row"] spAsc) (gM : mg "MAX_TIES" = some (.int 18 tM)) (T : BltB mg) : FnOk P w K mg base CX0 4 f fd ["places", "value"] spWebT := by
  have nd := scTies.nd
  have bI : Binds K gd ["value"] [] := FI.binds fun _ _ _ _ _ _ us hl => match us, hl with | [_], _ => rfl
  have bA : Binds K ld ["row"] [] := FA.binds fun _ _ _ _ _ _ us hl => match us, hl with | [_], _ => rfl
  refine F.ok scTies (fun vs H Q E h => ?_) (fun cdv A outer s H vs Q E hr h => ⟨_, (pss_cons (ps_if ((pw_or (pt_not (pt_val (pe_callB call_isi (by rfl) T.isinst (by decide +kernel) (pa_cons (pv 1) (pa_cons (pe_bltn (v := .ty "tuple") (by rfl) T.tuple (by decide +kernel) rfl) pa_nil))) (fun _ => rfl))) (pw_or (pt_cmpR op_gt (pe_callB call_len_seq (by rfl) T.len (by decide +kernel) (pa_cons (pv 1) pa_nil)) (pe_glob (v := .int 18) (by rfl) gM ⟨_, rfl⟩) (nomark _)) (pw_or1 (pt_not (pt_val (pe_callB (cr_all rfl) (by rfl) T.all (by decide +kernel) (pa_cons (pe_lc (own := [("tie", 4)]) (g := gName 4) (tt := tYes) rfl nd (pi_tup (pv 1)) (blkOk_by (own := [("tie", 4)]) (N := NTi) (sc := defScope sTies) (by decide +kernel)) (fun _ _ _ _ _ => (pg_name (i := 4) nd rfl (Or.inl rfl))) (fun _ _ _ _ _ => pts_nil) (fun _ _ _ _ _ => (pe_call GI (hr.mono (by decide)) (by rfl) gI FI.kp bI .nil pass0 (pa_cons (pv 4) pa_nil)))) pa_nil)) (fun _ => rfl))))))).pt (pss_one (ps_ret pe_bl)) pss_nil)
    (pss_one (ps_ret (pe_and (pe_call GA (hr.mono (by decide)) (by rfl) gA FA.kp bA .nil pass0 (pa_cons (pv 1) pa_nil)) (pe_one (pe_callB (cr_all rfl) (by rfl) T.all (by decide +kernel) (pa_cons (pe_lc (own := [("a", 2), ("b", 3)]) (g := gTup K 2 (gCons (gName 2) (gCons (gName 3) gNil))) (te := tAndV (tOp (rIn K false) (tVar 2) (tVar 0)) (tOp (rIn K false) (tVar 3) (tVar 0))) (tt := tYes) rfl nd (pi_tup (pv 1)) (blkOk_by (own := [("a", 2), ("b", 3)]) (N := NTi) (sc := defScope sTies) (by decide +kernel)) (fun _ _ _ _ _ => (pg_tup rfl (pgs_cons (pg_name (i := 2) nd rfl (Or.inl rfl)) (pgs_cons (pg_name (i := 3) nd rfl (Or.inl rfl)) pgs_nil)))) (fun _ _ _ _ _ => pts_nil) (fun _ _ _ _ _ => (pe_and (pe_cmpR op_in_seq (pv 2) (pv 0) (by with_unfolding_all rfl)) (pe_one (pe_cmpR op_in_seq (pv 3) (pv 0) (by with_unfolding_all rfl)))))) pa_nil))))))), ?_⟩)
  · obtain ⟨p, q, ks, ys, rfl, _⟩ := h
    rfl
  · obtain ⟨p, q, ks, ys, rfl, wa, ok, k⟩ := h
    walk_at "rd"
    have few := ok.few
    rw [List.length_map] at few
    have dt := dhT ok.names wa.ta fun t ht => ⟨(ok.ends t ht).1, (ok.ends t ht).2.1⟩
    refine Rd.isi (.tup wa.ts (by rw [List.length_map]; omega) dt) (by decide) ⟨_, rfl, ?_⟩
    refine Rd.iteF (by simp [isD, tyD]) ?_
    walk_at "rd"
    refine ⟨q, _, rfl, Or.inr (SqT.of wa.ts), ?_⟩
    walk_at "rd"
    have f18 : ¬ ((18 : Int) < ((rf ys).length : Int)) := by rw [List.length_map]; omega
    refine Rd.iteF (by rw [decide_eq_false f18]; decide) ?_
    walk_at "rd"
    refine Rd.lcm' ?_
    refine ⟨_, rfl, q, rfl, ⟨_, SqT.of wa.ts⟩, fun D hD => ?_⟩
    refine Rd.lc_mapG (walk_tup (xs := rf ys)) (fun _ => V.bl true) hD (by rw [List.length_map]; omega) (fun H' e => ex_t e (SqT.of wa.ts)) (fun i y Ha Hb R hi ea y1 hR => ?_) (fun H2 e2 h2 => ?_)
    · obtain ⟨rfl, y2⟩ := y1
      rw [List.getElem?_map] at y2
      cases ht : ys[i]? with
      | none => rw [ht] at y2; exact nomatch y2
      | some t =>
        rw [ht] at y2
        cases y2
        have tm := List.mem_of_getElem? ht
        have z := ok.ends t.2 (List.mem_map.mpr ⟨t, tm, rfl⟩)
        show _ ∧ _
        refine ⟨rfl, ?_⟩
        walk_at "rd"
        refine ⟨t.1, t.2.1, t.2.2, rfl, wa.ta.ex ea t tm, ok.names _ z.1, ok.names _ z.2.1, fun H4 e4 => ?_⟩
        rw [z.2.2]
        exact hR H4 e4
    · walk_at "rd"
      have wa2 := wa.ex e2
      rw [bls _ (fun _ => true)] at h2
      refine ⟨_, _, rfl, SqL.of h2, ?_⟩
      have al : ((List.range (rf ys).length).map fun _ => true).all id = true := by simp
      rw [al]
      refine ⟨_, rfl, ?_⟩
      refine Rd.iteF (by decide) ?_
      walk_at "rd"
      refine Rd.andv ?_
      walk_at "rd"
      refine ⟨q, rfl, Or.inr ⟨ys, wa2.ts, wa2.ta, by omega, fun H3 e3 => ⟨_, rfl, ?_⟩⟩⟩
      have wa3 := wa2.ex e3
      have n9 := ok.nine
      rw [ascB_of (r := OwL2.ltP) ok.tasc]
      refine Rd.iteT rfl ?_
      walk_at "rd"
      refine Rd.lcm' ?_
      refine ⟨_, rfl, q, rfl, ⟨_, SqT.of wa3.ts⟩, fun D' hD' => ?_⟩
      refine Rd.lc_mapG (walk_tup (xs := rf ys)) (fun _ => V.bl true) hD' (by rw [List.length_map]; omega) (fun H' e => ex_t e (SqT.of wa3.ts)) (fun i y Ha Hb R hi ea y1 hR => ?_) (fun H4 e4 h4 => ?_)
      · obtain ⟨rfl, y2⟩ := y1
        rw [List.getElem?_map] at y2
        cases ht : ys[i]? with
        | none => rw [ht] at y2; exact nomatch y2
        | some t =>
          rw [ht] at y2
          cases y2
          have tm := List.mem_of_getElem? ht
          have z := ok.ends t.2 (List.mem_map.mpr ⟨t, tm, rfl⟩)
          refine ⟨t.1, [.str t.2.1, .str t.2.2], rfl, SqT.of (wa3.ta.ex ea t tm), rfl, .str t.2.1, [.str t.2.2], rfl, ?_⟩
          walk_at "rd"
          refine ⟨.str t.2.2, [], rfl, ?_⟩
          walk_at "rd"
          refine ⟨rfl, ?_⟩
          show _ ∧ _
          refine ⟨rfl, ?_⟩
          walk_at "rd"
          refine Rd.andv ?_
          walk_at "rd"
          have hpl := ea _ _ wa3.ps
          refine ⟨p, ks.map V.str, rfl, Or.inr (SqT.of hpl), rfl, flat_strs ks, _, rfl, ?_⟩
          refine Rd.iteT (in_strs z.1) ?_
          walk_at "rd"
          refine ⟨p, ks.map V.str, rfl, Or.inr (SqT.of hpl), rfl, flat_strs ks, ?_⟩
          have g := hR _ (Ex.refl _)
          have iv : inV (.str t.2.2) (ks.map V.str) = true := in_strs z.2.1
          show R (.bl (inV (.str t.2.2) (ks.map V.str))) _
          rw [iv]
          exact g
      · walk_at "rd"
        rw [bls _ (fun _ => true)] at h4
        refine ⟨_, _, rfl, SqL.of h4, ?_⟩
        have al : ((List.range (rf ys).length).map fun _ => true).all id = true := by simp
        rw [al]
        exact k H4 ((e2.trans e3).trans e4)
end
end OwW


namespace OwW
open PySem PyProof.Rows L2 L2H OwX Rd Evl
theorem let_ok {c : Nat} (h : letB c = true) : c < 0x110000 := by
  unfold letB at h
  rw [Bool.and_eq_true] at h
  have z := h.2
  rw [Bool.not_eq_true'] at z
  have z' : ¬ (("z" : Str).cps.toList < [c]) := of_decide_eq_false z
  refine Decidable.byContradiction fun g => z' ?_
  show [122] < [c]
  exact List.Lex.rel (by omega)
theorem name_ok {x : Str} (h : nameB x = true) : PyData.strOk x = true := by
  unfold nameB at h
  rw [Bool.and_eq_true] at h
  have z := h.2
  rw [List.all_eq_true] at z
  show x.cps.all _ = true
  rw [Array.all_eq_true]
  intro i hi
  have y := z (letB (x.cps.getD i 0)) (List.mem_map.mpr ⟨i, List.mem_range.mpr hi, rfl⟩)
  have e : x.cps.getD i 0 = x.cps[i] := by simp [Array.getD, hi]
  rw [e] at y
  exact decide_eq_true (let_ok y)
theorem lay_strsT : ∀ {ss : List Str}, (∀ s ∈ ss, PyData.strOk s = true) → PyData.canLayAll0 (ss.map PyData.str) = true ∧ PyData.depthAll (ss.map PyData.str) = 0
  | [], _ => by simp [PyData.canLayAll0, PyData.depthAll]
  | s :: r, h => by
    have a := h s List.mem_cons_self
    obtain ⟨b, c⟩ := lay_strsT (ss := r) fun z hz => h z (List.mem_cons_of_mem _ hz)
    simp [PyData.canLayAll0, PyData.canLay0, PyData.depthAll, PyData.depth, a, b, c]
theorem shaped_tup {ss : List Str} (h : ∀ s ∈ ss, nameB s = true) : SeqAt.shaped (.tuple (ss.map PyData.str)) = true := by
  obtain ⟨a, b⟩ := lay_strsT fun s hs => name_ok (h s hs)
  simp [SeqAt.shaped, PyData.canLay0, PyData.depth, a, b]
theorem eqv_all : ∀ ss : List Str, PyData.eqvAll (ss.map PyData.str) (ss.map PyData.str) = true
  | [] => by simp [PyData.eqvAll]
  | s :: r => by
    have z := eqv_all r
    simp [PyData.eqvAll, PyData.eqv, z]
theorem eqv_tup (ss : List Str) : PyData.eqv (.tuple (ss.map PyData.str)) (.tuple (ss.map PyData.str)) = true := by
  simp [PyData.eqv, eqv_all]
theorem dp_strsT {K : PySem.W.Frag} {H : Hp} : ∀ ks : List Str, DpAll K H (ks.map V.str) (ks.map PyData.str)
  | [] => .nil
  | k :: ks => .cons (.str k) (dp_strsT ks)
section
variable {P : Program} {w : World} {K : PySem.W.Frag} {mg : Str → Option Value} {base : Heap}
theorem scIsWeb : FnScope ["places", "ties"] ["places", "ties"] (defScope sIsWeb) := ⟨rfl, rfl, rfl, by decide +kernel, rfl, by decide +kernel, by decide +kernel⟩
theorem ok_isweb {f g l m : Addr} {fd gd ld md : FuncData} (F : Fun K "_is_web" "_is_web" sIsWeb f fd) (FP : Fun K "_are_places" "_are_places" sPlaces g gd) (gP : mg "_are_places" = some (.ref g)) (GP : FnOk P w K mg base CX0 3 g gd ["value"] spPlaces)
    (FT : Fun K "_are_ties" "_are_ties" sTies l ld) (gT : mg "_are_ties" = some (.ref l)) (GT : FnOk P w K mg base CX0 4 l ld ["places", "value"] spWebT)
    (FR : Fun K "reached_along" "reached_along" sReach m md) (gR : mg "reached_along" = some (.ref m)) (GR : FnOk P w K mg base CX0 2 m md ["ties", "place"] spReach) : FnOk P w K mg base CX0 5 f fd ["places", "ties"] spWebT := by
  have nd := scIsWeb.nd
  have bP : Binds K gd ["value"] [] := FP.binds fun _ _ _ _ _ _ us hl => match us, hl with | [_], _ => rfl
  have bT : Binds K ld ["places", "value"] [] := FT.binds fun _ _ _ _ _ _ us hl => match us, hl with | [_, _], _ => rfl
  have bR : Binds K md ["ties", "place"] [] := FR.binds fun _ _ _ _ _ _ us hl => match us, hl with | [_, _], _ => rfl
  refine F.ok scIsWeb (fun vs H Q E h => ?_) (fun cdv A outer s H vs Q E hr h => ⟨_, (pss_one (ps_ret (pe_and (pe_call GP (hr.mono (by decide)) (by rfl) gP FP.kp bP .nil pass0 (pa_cons (pv 0) pa_nil)) (pe_and (pe_call GT (hr.mono (by decide)) (by rfl) gT FT.kp bT .nil pass0 (pa_cons (pv 0) (pa_cons (pv 1) pa_nil))) (pe_one (pe_cmpR (op_eqD hr.units) (pe_call GR (hr.mono (by decide)) (by rfl) gR FR.kp bR .nil pass0 (pa_cons (pv 1) (pa_cons (pe_ix ix_tup (pv 0) pe_int (fun _ _ => rfl)) pa_nil))) (pv 0) (nomark _))))))), ?_⟩)
  · obtain ⟨p, q, ks, ys, rfl, _⟩ := h
    rfl
  · obtain ⟨p, q, ks, ys, rfl, wa, ok, k⟩ := h
    walk_at "rd"
    refine Rd.andv ?_
    walk_at "rd"
    refine ⟨p, q, ks, ys, rfl, wa, ok, fun H1 e1 => ⟨_, rfl, ?_⟩⟩
    refine Rd.iteT rfl (Rd.andv ?_)
    walk_at "rd"
    have wa1 := wa.ex e1
    refine ⟨p, q, ks, ys, rfl, wa1, ok, fun H2 e2 => ⟨_, rfl, ?_⟩⟩
    refine Rd.iteT rfl ?_
    walk_at "rd"
    have wa2 := wa1.ex e2
    have few := ok.few
    have n9 := ok.nine
    have n2 := ok.two
    rw [List.length_map] at few
    have h0 : ∃ k0 r, ks = k0 :: r := by
      cases ks with
      | nil => exact absurd n2 (by decide)
      | cons a r => exact ⟨a, r, rfl⟩
    obtain ⟨k0, kr, hk0⟩ := h0
    have m0 : ks.getD 0 "" ∈ ks := by rw [hk0]; exact List.mem_cons_self
    have a0 : atI (ks.map V.str) 0 = some (.str (ks.getD 0 "")) := by
      rw [hk0]
      unfold atI ixN
      simp
    refine Rd.ixt (SqT.of wa2.ps) a0 ?_
    walk_at "rd"
    refine ⟨q, ys, ks.getD 0 "", ks, rfl, wa2.ts, wa2.ta, by omega, by omega, m0, fun t ht => ?_, fun l so nd' h r H3 e3 hr3 => ?_⟩
    · have z := ok.ends t.2 (List.mem_map.mpr ⟨t, ht, rfl⟩)
      exact ⟨z.1, z.2.1⟩
    · walk_at "rd"
      have el := ok.reached so nd' h
      subst el
      have sh : SeqAt.shaped (.tuple (l.map PyData.str)) = true := shaped_tup ok.names
      have eq : PyData.eqv (.tuple (l.map PyData.str)) (.tuple (l.map PyData.str)) = true := eqv_tup l
      refine ⟨.tuple (l.map PyData.str), .tuple (l.map PyData.str), .tup (SqT.of hr3) (dp_strsT l), .tup (SqT.of (e3 _ _ wa2.ps)) (dp_strsT l), sh, sh, ?_⟩
      rw [eq]
      exact k H3 ((e1.trans e2).trans e3)
end
end OwW


namespace OwW
open PySem PyProof.Rows L2 L2H OwX Rd Evl
/-- the j-th of a class's rows -/
def mth (i j : Nat) : Stmt := match top i with
  | .ClassDef _ _ _ body _ _ _ _ _ _ _ => body.getD j (.Pass ⟨0, 0, 0, 0⟩)
  | st => st
abbrev sInit : Stmt := mth 20 0
abbrev NIn : List Str := ["self", "places", "ties", "place"]
/-- rows that are never run -/
theorem pss_dead {X : Cx} {ss : List Stmt} : PSs X ss (fun _ _ _ => False) := ⟨fun _ _ _ _ _ _ h => h.elim⟩
def ent (t : Str × Addr × List Str) : Key × V := (Sum.inr t.1, V.ref t.2.1)
structure NearOk (H : Hp) (ts : List (Str × Str)) (t : Str × Addr × List Str) : Prop where
  at_ : H t.2.1 = some (.tup (t.2.2.map V.str))
  pm : t.2.2.Perm (endsL ts t.1)
  so : sortedS t.2.2 = true
theorem NearOk.ex {H H' : Hp} {ts : List (Str × Str)} {t : Str × Addr × List Str} (n : NearOk H ts t) (e : Ex H H') : NearOk H' ts t := ⟨e _ _ n.at_, n.pm, n.so⟩
/-- a web at a -/
structure IsWeb (C : Addr) (H : Hp) (a : Addr) (ks : List Str) (ys : TL) : Prop where
  ok : WebOk ks (ys.map (·.2))
  at_ : ∃ (dx p q n : Addr) (nl : List (Str × Addr × List Str)), H a = some (.ins C dx [("_places", .ref p), ("_ties", .ref q), ("_near", .ref n)]) ∧ WebAt H p q ks ys ∧ H n = some (.dK (nl.map ent)) ∧ nl.map (·.1) = ks ∧ ∀ t ∈ nl, NearOk H (ys.map (·.2)) t
theorem IsWeb.ex {C : Addr} {H H' : Hp} {a : Addr} {ks : List Str} {ys : TL} (w : IsWeb C H a ks ys) (e : Ex H H') : IsWeb C H' a ks ys := by
  obtain ⟨dx, p, q, n, nl, h1, h2, h3, h4, h5⟩ := w.at_
  exact ⟨w.ok, dx, p, q, n, nl, e _ _ h1, h2.ex e, e _ _ h3, h4, fun t ht => (h5 t ht).ex e⟩
def spInit (C : Addr) : Sp := fun vs H Q _ => ∃ (a p q dx : Addr) (ks : List Str) (ys : TL) (H0 : Hp), vs = [.ref a, .ref p, .ref q] ∧ H0 a = none ∧ Ex H0 H ∧ H a = some (.ins C dx []) ∧ WebAt H0 p q ks ys ∧ WebOk ks (ys.map (·.2)) ∧ ∀ H', Ex H0 H' → IsWeb C H' a ks ys → Q .non H'
theorem ent_none {nl : List (Str × Addr × List Str)} {k : Str} (h : ¬ k ∈ nl.map (·.1)) : valV (nl.map ent) (Sum.inr k) = none := by
  induction nl with
  | nil => rfl
  | cons t nl ih =>
    rw [List.map_cons, List.mem_cons, not_or] at h
    rw [List.map_cons, valV_neg (fun e => h.1 (Sum.inr.inj e).symm)]
    exact ih h.2
structure WebK (K : PySem.W.Frag) (C : Addr) : Prop where
  cls : Cls K C
  np : NoAttr K C "_places"
  nt : NoAttr K C "_ties"
  nn : NoAttr K C "_near"
section
variable {P : Program} {w : World} {K : PySem.W.Frag} {mg : Str → Option Value} {base : Heap}
theorem scInit : FnScope NIn ["self", "places", "ties"] (defScope sInit) := ⟨rfl, rfl, rfl, by decide +kernel, rfl, by decide +kernel, by decide +kernel⟩
theorem ok_init {f g l C : Addr} {fd gd ld : FuncData} (F : Fun K "__init__" "Web.__init__" sInit f fd) (FW : Fun K "_is_web" "_is_web" sIsWeb g gd) (gW : mg "_is_web" = some (.ref g)) (GW : FnOk P w K mg base CX0 5 g gd ["places", "ties"] spWebT)
    (FE : Fun K "_ends_off" "_ends_off" sEnds l ld) (gE : mg "_ends_off" = some (.ref l)) (GE : FnOk P w K mg base CX0 1 l ld ["ties", "place"] spEnds) (WK : WebK K C) : FnOk P w K mg base CX0 6 f fd ["self", "places", "ties"] (spInit C) := by
  have nd := scInit.nd
  have bW : Binds K gd ["places", "ties"] [] := FW.binds fun _ _ _ _ _ _ us hl => match us, hl with | [_, _], _ => rfl
  have bE : Binds K ld ["ties", "place"] [] := FE.binds fun _ _ _ _ _ _ us hl => match us, hl with | [_, _], _ => rfl
  refine F.ok scInit (fun vs H Q E h => ?_) (fun cdv A outer s H vs Q E hr h => ⟨_, (pss_cons (ps_if (pt_not (pt_val (pe_call GW (hr.mono (by decide)) (by rfl) gW FW.kp bW .nil pass0 (pa_cons (pv 1) (pa_cons (pv 2) pa_nil))) (fun _ => rfl))) pss_dead pss_nil)
    (pss_cons (ps_fld (pv 0) (pv 1) rfl)
    (pss_cons (ps_fld (pv 0) (pv 2) rfl)
    (pss_one (ps_fld (pv 0) (pe_dc (own := [("place", 3)]) (g := gName 3) (tt := tYes) rfl nd (pi_tup (pv 1)) (blkOk_by (own := [("place", 3)]) (N := NIn) (sc := defScope sInit) (by decide +kernel)) (fun _ _ _ _ _ => (pg_name (i := 3) nd rfl (Or.inl rfl))) (fun _ _ _ _ _ => pts_nil) (fun _ _ _ _ _ => (pv 3)) (fun _ _ _ _ _ => (pe_call GE (hr.mono (by decide)) (by rfl) gE FE.kp bE .nil pass0 (pa_cons (pv 2) (pa_cons (pv 3) pa_nil))))) rfl))))), ?_⟩)
  · obtain ⟨a, p, q, dx, ks, ys, H0, rfl, _⟩ := h
    rfl
  · obtain ⟨a, p, q, dx, ks, ys, H0, rfl, ha0, e0, ha, wa, ok, k⟩ := h
    walk_at "rd"
    refine ⟨p, q, ks, ys, rfl, wa.ex e0, ok, fun H1 e1 => ⟨_, rfl, ?_⟩⟩
    refine Rd.iteF (by decide) ?_
    walk_at "rd"
    have E1 : Ex H0 H1 := e0.trans e1
    refine ⟨_, rfl, ?_⟩
    walk_at "rd"
    refine ⟨a, C, dx, [], rfl, e1 _ _ ha, WK.cls, WK.np, by decide, ?_⟩
    have E2 : Ex H0 (upd H1 a (.ins C dx (putF "_places" (.ref p) []))) := E1.mut ha0
    have a2 : (upd H1 a (.ins C dx (putF "_places" (.ref p) []))) a = some (.ins C dx [("_places", .ref p)]) := upd_same
    generalize upd H1 a (.ins C dx (putF "_places" (.ref p) [])) = H2 at E2 a2 ⊢
    walk_at "rd"
    refine ⟨_, rfl, ?_⟩
    walk_at "rd"
    refine ⟨a, C, dx, _, rfl, a2, WK.cls, WK.nt, by simp, ?_⟩
    have E3 : Ex H0 (upd H2 a (.ins C dx (putF "_ties" (.ref q) [("_places", .ref p)]))) := E2.mut ha0
    have a3 : (upd H2 a (.ins C dx (putF "_ties" (.ref q) [("_places", .ref p)]))) a = some (.ins C dx [("_places", .ref p), ("_ties", .ref q)]) := upd_same
    generalize upd H2 a (.ins C dx (putF "_ties" (.ref q) [("_places", .ref p)])) = H3 at E3 a3 ⊢
    walk_at "rd"
    have wa3 := wa.ex E3
    have n9 := ok.nine
    have few := ok.few
    rw [List.length_map] at few
    dsimp only
    unfold sFld tDc iTup
    walk_at "rd"
    refine ⟨p, rfl, ⟨_, SqT.of wa3.ps⟩, fun D hD => ?_⟩
    refine dc_tup (xs := ks.map V.str) (fun i H4 => Ex H3 H4 ∧ ∃ nl : List (Str × Addr × List Str), H4 D = some (.dK (nl.map ent)) ∧ nl.map (·.1) = ks.take i ∧ ∀ t ∈ nl, NearOk H4 (ys.map (·.2)) t) ⟨Ex.new hD, [], upd_same, rfl, fun _ h => nomatch h⟩ (fun i H4 _ hP => SqT.of (hP.1 _ _ wa3.ps)) (fun i z H4 hz hP => ?_) (fun H4 hP => ?_)
    · obtain ⟨e4, nl, hn, hk, near⟩ := hP
      rw [List.getElem?_map] at hz
      cases hb : ks[i]? with
      | none => rw [hb] at hz; exact nomatch hz
      | some b =>
        rw [hb] at hz
        cases hz
        show _ ∧ _
        refine ⟨rfl, ?_⟩
        unfold tYes
        show (if (true : Bool) = true then _ else _)
        rw [if_pos rfl]
        walk_at "rd"
        have nb : ¬ b ∈ nl.map (·.1) := fun hm => by
          rw [hk] at hm
          have asc := ok.asc
          rw [← List.take_append_drop i ks] at asc
          have hd : b ∈ ks.drop i := List.mem_of_getElem? (i := 0) (by rw [List.getElem?_drop]; exact hb)
          have z := (List.pairwise_append.mp asc).2.2 b hm b hd
          rw [lt_irr] at z
          exact nomatch z
        have ln : nl.length ≤ 9 := by
          have z : (nl.map (·.1)).length = _ := congrArg List.length hk
          rw [List.length_map, List.length_take] at z
          omega
        refine ⟨q, ys, b, rfl, e4 _ _ wa3.ts, wa3.ta.ex e4, by omega, fun es pm so r H6 e6 hr6 => ?_⟩
        refine ⟨nl.map ent, Sum.inr b, rfl, e6 _ _ hn, sz_lt (by rw [List.length_map]; omega), (e4.trans e6).mut hD, nl ++ [(b, r, es)], ?_, ?_, fun t ht => ?_⟩
        · rw [putK_new _ (ent_none nb), List.map_append]
          exact upd_same
        · rw [List.map_append, hk, List.take_add_one, hb]
          rfl
        · have hn6 := e6 _ _ hn
          rcases List.mem_append.mp ht with z | z
          · have y := (near t z).ex e6
            have ne : t.2.1 ≠ D := fun e => by
              have y1 := y.at_
              rw [e, hn6] at y1
              exact nomatch y1
            exact ⟨(upd_ne ne).trans y.at_, y.pm, y.so⟩
          · rw [List.mem_singleton.mp z]
            have ne : r ≠ D := fun e => by
              rw [e, hn6] at hr6
              exact nomatch hr6
            exact ⟨(upd_ne ne).trans hr6, pm, so⟩
    · obtain ⟨e4, nl, hn, hk, near⟩ := hP
      walk_at "rd"
      have a4 := e4 _ _ a3
      refine ⟨a, C, dx, _, rfl, a4, WK.cls, WK.nn, by simp, ?_⟩
      have EE := (E3.trans e4).mut (o := .ins C dx (putF "_near" (.ref D) [("_places", .ref p), ("_ties", .ref q)])) ha0
      have Da : D ≠ a := fun e => by
        rw [e, a3] at hD
        exact nomatch hD
      rw [List.length_map, List.take_length] at hk
      refine k _ EE ⟨ok, dx, p, q, D, nl, upd_same, wa.ex EE, (upd_ne Da).trans hn, hk, fun t ht => ?_⟩
      have y := near t ht
      have ne : t.2.1 ≠ a := fun e => by
        have y1 := y.at_
        rw [e, a4] at y1
        exact nomatch y1
      exact ⟨(upd_ne ne).trans y.at_, y.pm, y.so⟩
end
end OwW

/-! sorted(set of texts): ascending. -/
namespace OwT
open PySem PySem.Spec PyProof.Rows PySem.Froz L2
section
variable {X : Cx} {pins : List (Addr × Obj)} {σ : L2.St} {H : Hp} {s : Shared}
def rSortTxS (X : Cx) : List V → Hp → VK → Prop := fun vs H Q => ∃ (a : Addr) (l : List Str), vs = [.ref a] ∧ H a = some (TxO X.prog X.w a l) ∧ l.length < 64 ∧ ∀ (ys : List Str) p, ys.Perm l → sortedS ys = true → H p = none → Q (.ref p) (upd H p (.lst (ys.map V.str)))
theorem call_sortTxS (hc : X.calm = true) : CallR X (.builtin "sorted") (rSortTxS X) := by
  intro pins s σ H vs us Q I r h
  obtain ⟨a, l, rfl, ha, h64, q⟩ := h
  rw [Vals.ref1 r]
  obtain ⟨D, g, F, nd, rs, ld⟩ := txO_at I ha
  obtain ⟨es, ep, t⟩ := D
  have z : es.size = l.length := F.sz
  have fb : es.size < scanBound := by unfold scanBound; omega
  refine Calls.call_function_entry kind_sorted plain_sorted entry_sorted (args_sorted1 _) ?_
  unfold Builtin.«sorted»
  refine wpAny_bind (m := checkCount "sorted" 1 1 _) (wpAny_pure (wpAny_bind (collect_set (A := X.A.in1) (I.ok.hd hc) ⟨_, g, rfl, rfl⟩ F.fit fb rs ld fun s1 ws k1 hz g1 o1 pm => ?_)))
  have allS : ∀ v ∈ ws, ∃ k u, v = .str k u := fun v hv => by
    obtain ⟨e, he, ev⟩ := List.mem_map.mp (pm.mem_iff.mp hv)
    obtain ⟨⟨k, hk, _⟩, _⟩ := F.el e he
    obtain ⟨u, hu⟩ := is_of hk
    exact ⟨k, u, ev ▸ hu⟩
  have hS := strsAre_all allS
  have wl : ws.length = l.length := by rw [pm.length_eq, List.length_map, Array.length_toList]; exact z
  have pl : (ws.map PyProof.Rows.strOf).Perm l := perm_of_sub nd (fun k hk => by
    obtain ⟨e, he, hp⟩ := (F.mem k).mp hk
    obtain ⟨u, hu⟩ := is_of hp
    exact List.mem_map.mpr ⟨e.2, pm.mem_iff.mpr (List.mem_map.mpr ⟨e, he, rfl⟩), by rw [hu]; rfl⟩) (by rw [List.length_map, wl]; exact Nat.le_refl _)
  have ll : ws.length < 64 := by rw [wl]; exact h64
  refine wpAny_bind (wpAny_newList ?_ (by rw [sizeLine_eq]; omega))
  have hoL : (s1.heap.push (seqObj "list" ws.toArray 0)).get? s1.heap.objs.size = some (seqObj "list" ws.toArray 0) := Heap.get?_push_size _ rfl
  refine wpAny_bind (wpAny_holding (wpAny_call_entry slot_list_sort ⟨_, hoL, rfl⟩ entry_list_sort (list_sort_treeK strKind_oneLt hoL hS.keysOf (fun v1 v2 rest e => keyKind_strs (by rw [← e]; exact hS)) ll fun st hp hs => ?_) (args_list_sort _)))
  obtain ⟨ys, y1, y2, y3⟩ := sorted_out_str hS hp hs
  obtain ⟨c, hcc⟩ := sortedHeap_at (vs := ws) (out := (arrOf st).map (·.2)) hoL
  have hn : H s1.heap.objs.size = none := I.hok.fresh hz
  have yl : (ys.map V.str).length ≤ sizeLine := by rw [List.length_map, y2.length_eq, List.length_map, wl, sizeLine_eq]; omega
  have keep : ∀ b o, s.heap.get? b = some o → (sortedHeap (s1.heap.push (seqObj "list" ws.toArray 0)) s1.heap.objs.size ws ((arrOf st).map (·.2))).get? b = some o := fun b o e => by
    have e1 := k1 b o e
    have lt := Heap.lt_size e1
    rw [sortedHeap_old (Nat.ne_of_lt lt) (by rw [size_push']; exact Nat.lt_succ_of_lt lt)]
    exact Heap.get?_push_of_some _ e1
  obtain ⟨h1, gg, dd, tk, os⟩ := s1
  dsimp only at g1 o1
  subst g1 o1
  have J : Inv X pins σ (upd H h1.objs.size (.lst (ys.map V.str))) { s with heap := sortedHeap (h1.push (seqObj "list" ws.toArray 0)) h1.objs.size ws ((arrOf st).map (·.2)), gens := s.gens, drawn := dd, toks := tk } :=
    I.call (ch := []) (Un.laid keep hz hn) (I.hok.laid keep hz ⟨yl, _, c, vals_of_strs y1, hcc⟩) I.bare (fun _ z => nomatch z)
  exact ⟨_, rfl, wpAny_pure ⟨_, rfl, .ref h1.objs.size, _, J, rfl, q ys _ (y2.trans pl) y3 hn⟩⟩
end
end OwT


namespace OwW
open PySem PyProof.Rows L2 L2H OwX Rd Evl
def leP (p q : Str × Str) : Bool := !OwL2.ltP q p
theorem ltP_irr (a : Str × Str) : OwL2.ltP a a = false := by
  unfold OwL2.ltP
  rw [if_pos rfl]
  exact lt_irr _
theorem ltP_tot {a b : Str × Str} (h : OwL2.ltP a b = false) (n : a ≠ b) : OwL2.ltP b a = true := by
  unfold OwL2.ltP at h ⊢
  by_cases e : a.1 = b.1
  · rw [if_pos e] at h
    rw [if_pos e.symm]
    exact lt_tot h fun z => n (Prod.ext e z)
  · rw [if_neg e] at h
    rw [if_neg (fun z => e z.symm)]
    exact lt_tot h e
theorem leP_lt {a b : Str × Str} (h : leP a b = true) (n : a ≠ b) : OwL2.ltP a b = true := by
  unfold leP at h
  rw [Bool.not_eq_true'] at h
  exact ltP_tot h fun z => n z.symm
theorem ltP_le {a b : Str × Str} (h : OwL2.ltP a b = true) : leP a b = true := by
  unfold leP
  rw [Bool.not_eq_true']
  cases c : OwL2.ltP b a with
  | false => rfl
  | true =>
    have z := ltP_tr h c
    rw [ltP_irr] at z
    exact nomatch z
theorem leP_tr {a b c : Str × Str} (h : leP a b = true) (g : leP b c = true) : leP a c = true := by
  by_cases e : a = b
  · rw [e]
    exact g
  · by_cases f : b = c
    · rw [← f]
      exact h
    · exact ltP_le (ltP_tr (leP_lt h e) (leP_lt g f))
theorem leP_total (a b : Str × Str) : (leP a b || leP b a) = true := by
  by_cases e : a = b
  · rw [e]
    show ((!OwL2.ltP b b) || (!OwL2.ltP b b)) = true
    rw [ltP_irr]
    rfl
  · cases c : OwL2.ltP a b with
    | true => rw [ltP_le c]; rfl
    | false => rw [ltP_le (ltP_tot c e), Bool.or_true]
def prS (p : Addr × List Str) : Str × Str := (p.2.getD 0 "", p.2.getD 1 "")
theorem le_pr {p q : Addr × List Str} (hp : p.2.length = 2) (hq : q.2.length = 2) : OwP.le p q = leP (prS p) (prS q) := by
  obtain ⟨a, l⟩ := p
  obtain ⟨b, m⟩ := q
  match l, hp, m, hq with
  | [x, y], _, [u, v], _ =>
    show (!PySem.W.dataLt (.tuple [.str u, .str v]) (.tuple [.str x, .str y])) = _
    rw [OwL2.dataLt_pairS (u, v) (x, y)]
    rfl
end OwW

namespace OwW
open PySem PyProof.Rows L2 L2H OwX Rd Evl
theorem pr_of {p : Addr × List Str} (h : p.2.length = 2) : p.2 = [(prS p).1, (prS p).2] := by
  obtain ⟨a, l⟩ := p
  match l, h with
  | [x, y], _ => rfl
theorem sort_pairs {L0 L2 xs : List (Addr × List Str)} (h2 : ∀ p ∈ L0, p.2.length = 2) (O : OwP.Of L0 L2) (nd : (L2.map (·.2)).Nodup) (px : xs.Perm L2) :
    ((xs.mergeSort OwP.le).map prS).Pairwise (fun a b => OwL2.ltP a b = true) ∧ ∀ t, t ∈ (xs.mergeSort OwP.le).map prS ↔ t ∈ L0.map prS := by
  have l2 : ∀ p ∈ L2, p.2.length = 2 := fun p hp => h2 p (O.sub p hp)
  have lx : ∀ p ∈ xs, p.2.length = 2 := fun p hp => l2 p (px.mem_iff.mp hp)
  have e : (xs.mergeSort OwP.le).map prS = (xs.map prS).mergeSort leP := PySem.W.sort_maps prS fun a ha b hb => le_pr (lx a ha) (lx b hb)
  have pw : ((xs.map prS).mergeSort leP).Pairwise (fun a b => leP a b = true) := PySem.W.sort_pairwise (le := leP) ⟨fun a b c h g => leP_tr h g, fun a b => Bool.or_eq_true_iff.mp (leP_total a b)⟩ _
  have n2 : (L2.map prS).Nodup := by
    have z : L2.Pairwise (fun a b => a.2 ≠ b.2) := List.pairwise_map.mp nd
    refine List.pairwise_map.mpr (z.imp_of_mem fun {a b} ha hb hne hpr => hne ?_)
    rw [pr_of (l2 a ha), pr_of (l2 b hb), hpr]
  have nx : ((xs.map prS).mergeSort leP).Nodup := ((List.mergeSort_perm (xs.map prS) leP).symm.nodup ((px.map prS).symm.nodup n2))
  rw [e]
  refine ⟨?_, fun t => ?_⟩
  · refine (List.Pairwise.and pw nx).imp fun {a b} h => leP_lt h.1 h.2
  · rw [(List.mergeSort_perm (xs.map prS) leP).mem_iff, (px.map prS).mem_iff]
    constructor
    · intro h
      obtain ⟨p, hp, rfl⟩ := List.mem_map.mp h
      exact List.mem_map.mpr ⟨p, O.sub p hp, rfl⟩
    · intro h
      obtain ⟨p, hp, rfl⟩ := List.mem_map.mp h
      obtain ⟨q, hq, e2⟩ := List.mem_map.mp (O.all p hp)
      refine List.mem_map.mpr ⟨q, hq, ?_⟩
      unfold prS
      rw [e2]
end OwW


namespace OwW
open PySem PyProof.Rows L2 L2H OwX Rd Evl
abbrev sTie : Stmt := top 48
abbrev sPlain : Stmt := top 49
abbrev NPl : List Str := ["_law_places", "_law_ties", "_law_found", "_law_a", "_law_b"]
structure BltM (mg : Str → Option Value) : Prop where
  min : mg "min" = none
  max : mg "max" = none
  list : mg "list" = none
  sorted : mg "sorted" = none
  set : mg "set" = none
  tuple : mg "tuple" = none
  range : mg "range" = none
  len : mg "len" = none
/-- the ends in their order -/
def norm (t : Str × Str) : Str × Str := (OwL2.minS t.1 t.2, OwL2.maxS t.1 t.2)
def spTie : Sp := fun vs H Q _ => ∃ a b : Str, vs = [.str a, .str b] ∧ ∀ p H', Ex H H' → H' p = some (.tup [V.str (norm (a, b)).1, V.str (norm (a, b)).2]) → H p = none → Q (.ref p) H'
/-- a plain web at d -/
structure PlainAt (H : Hp) (d : Addr) (ks : List Str) (zs : TL) : Prop where
  at_ : ∃ kp tp : Addr, H d = some (.dK [(Sum.inr "places", .ref kp), (Sum.inr "ties", .ref tp)]) ∧ H kp = some (.lst (ks.map V.str)) ∧ H tp = some (.lst (rf zs))
  ta : TA H zs
theorem PlainAt.ex {H H' : Hp} {d : Addr} {ks : List Str} {zs : TL} (w : PlainAt H d ks zs) (e : Ex H H') : PlainAt H' d ks zs := by
  obtain ⟨kp, tp, h1, h2, h3⟩ := w.at_
  exact ⟨⟨kp, tp, e _ _ h1, e _ _ h2, e _ _ h3⟩, w.ta.ex e⟩
/-- the ends of ties, one by one -/
def foundL (ts : List (Str × Str)) : List Str := ts.flatMap fun t => [t.1, t.2]
theorem found_len : ∀ ts : List (Str × Str), (foundL ts).length = 2 * ts.length
  | [] => rfl
  | t :: ts => by
    have z := found_len ts
    unfold foundL at z ⊢
    rw [List.flatMap_cons, List.length_append, z]
    show 2 + 2 * ts.length = 2 * (ts.length + 1)
    omega
def spPlain : Sp := fun vs H Q _ => ∃ (b c : Addr) (ys : TL), vs = [.ref b, .ref c] ∧ H b = some (.lst []) ∧ H c = some (.lst (rf ys)) ∧ TA H ys ∧ ys.length ≤ 30 ∧
  ∀ d H' (ks : List Str) (zs : TL), Ex H H' → PlainAt H' d ks zs → ks.Pairwise (fun a b => OwL2.lt a b = true) → (∀ k, k ∈ ks ↔ ∃ t ∈ ys.map (·.2), k = t.1 ∨ k = t.2) → (zs.map (·.2)).Pairwise (fun a b => OwL2.ltP a b = true) → (∀ t, t ∈ zs.map (·.2) ↔ t ∈ (ys.map (·.2)).map norm) → H d = none → Q (.ref d) H'
section
variable {P : Program} {w : World} {K : PySem.W.Frag} {mg : Str → Option Value} {base : Heap}
theorem scTie : FnScope ["_law_a", "_law_b"] ["_law_a", "_law_b"] (defScope sTie) := ⟨rfl, rfl, rfl, by decide +kernel, rfl, by decide +kernel, by decide +kernel⟩
theorem ok_tie {f : Addr} {fd : FuncData} (F : Fun K "_law_tie" "_law_tie" sTie f fd) (T : BltM mg) : FnOk P w K mg base CX0 1 f fd ["_law_a", "_law_b"] spTie := by
  have nd := scTie.nd
  refine F.ok scTie (fun vs H Q E h => ?_) (fun cdv A outer s H vs Q E hr h => ⟨_, (pss_one (ps_ret (pe_tup (pa_cons (pe_callB (OwL2.call_minS rfl) (by rfl) T.min (by decide +kernel) (pa_cons (pv 0) (pa_cons (pv 1) pa_nil))) (pa_cons (pe_callB (OwL2.call_maxS rfl) (by rfl) T.max (by decide +kernel) (pa_cons (pv 0) (pa_cons (pv 1) pa_nil))) pa_nil))))), ?_⟩)
  · obtain ⟨a, b, rfl, _⟩ := h
    rfl
  · obtain ⟨a, b, rfl, k⟩ := h
    walk_at "rd"
    refine ⟨_, _, rfl, ?_⟩
    walk_at "rd"
    refine ⟨_, _, rfl, ?_⟩
    walk_at "rd"
    refine ⟨small64 (n := 2) (by decide), fun p hp => ?_⟩
    exact k p _ (Ex.new hp) upd_same hp
theorem scPlain : FnScope NPl ["_law_places", "_law_ties"] (defScope sPlain) := ⟨rfl, rfl, rfl, by decide +kernel, rfl, by decide +kernel, by decide +kernel⟩
theorem ok_plain {f g : Addr} {fd gd : FuncData} (F : Fun K "_law_plain" "_law_plain" sPlain f fd) (FT : Fun K "_law_tie" "_law_tie" sTie g gd) (gT : mg "_law_tie" = some (.ref g)) (GT : FnOk P w K mg base CX0 1 g gd ["_law_a", "_law_b"] spTie) (T : BltM mg) : FnOk P w K mg base CX0 2 f fd ["_law_places", "_law_ties"] spPlain := by
  have nd := scPlain.nd
  have bT : Binds K gd ["_law_a", "_law_b"] [] := FT.binds fun _ _ _ _ _ _ us hl => match us, hl with | [_, _], _ => rfl
  refine F.ok scPlain (fun vs H Q E h => ?_) (fun cdv A outer s H vs Q E hr h => ⟨_, (pss_cons (ps_set (i := 2) nd rfl (Or.inl rfl) (pe_callTy call_list_of (by rfl) T.list (by decide +kernel) (pa_cons (pv 0) pa_nil)))
    (pss_cons (ps_for PassesOwn.never rfl (pi_list (pv 1)) (pg_tup rfl (pgs_cons (pg_name (i := 3) nd rfl (Or.inl rfl)) (pgs_cons (pg_name (i := 4) nd rfl (Or.inl rfl)) pgs_nil))) (pss_one (ps_expr (pe_bm PySem.F.plainAttrs_list PySem.F.slot_list_extend PySem.F.type_list_extend mt_extend (pv 2) (pa_cons (pe_lstN (pa_cons (pv 3) (pa_cons (pv 4) pa_nil))) pa_nil)))))
    (pss_one (ps_ret (pe_disp (pps_cons pe_str (pe_callB (OwT.call_sortTxS rfl) (by rfl) T.sorted (by decide +kernel) (pa_cons (pe_callTy (OwT.call_setTx rfl) (by rfl) T.set (by decide +kernel) (pa_cons (pv 2) pa_nil)) pa_nil)) (pps_cons pe_str (pe_callB (OwP.call_sortST rfl hr.units) (by rfl) T.sorted (by decide +kernel) (pa_cons (pe_callTy (OwP.call_setTp rfl hr.units) (by rfl) T.set (by decide +kernel) (pa_cons (pe_lc (own := [("_law_a", 3), ("_law_b", 4)]) (g := gTup K 2 (gCons (gName 3) (gCons (gName 4) gNil))) (tt := tYes) rfl nd (pi_list (pv 1)) (blkOk_by (own := [("_law_a", 3), ("_law_b", 4)]) (N := NPl) (sc := defScope sPlain) (by decide +kernel)) (fun _ _ _ _ _ => (pg_tup rfl (pgs_cons (pg_name (i := 3) nd rfl (Or.inl rfl)) (pgs_cons (pg_name (i := 4) nd rfl (Or.inl rfl)) pgs_nil)))) (fun _ _ _ _ _ => pts_nil) (fun _ _ _ _ _ => (pe_call GT (hr.mono (by decide)) (by rfl) gT FT.kp bT .nil pass0 (pa_cons (pv 3) (pa_cons (pv 4) pa_nil))))) pa_nil)) pa_nil)) pps_nil)) (by rfl) (by rfl) (fun z => by cases z) (by decide)))))), ?_⟩)
  · obtain ⟨b, c, ys, rfl, _⟩ := h
    rfl
  · obtain ⟨b, c, ys, rfl, hb, hc, ta, hl, k⟩ := h
    walk_at "rd"
    refine ⟨b, [], rfl, Or.inl (SqL.of hb), fun L hL => ?_⟩
    have e0 : Ex H (upd H L (.lst [])) := Ex.new hL
    have l0 : (upd H L (.lst [])) L = some (.lst ((foundL ((ys.map (·.2)).take 0)).map V.str)) := upd_same
    generalize upd H L (.lst []) = H1 at e0 l0 ⊢
    walk_at "rd"
    with_reducible refine Rd.for' ?_
    refine ⟨_, rfl, c, rfl, ⟨_, SqL.of (e0 _ _ hc)⟩, ?_⟩
    refine for_it (walk_list (xs := rf ys)) (fun i σ H' => ∃ x y : Option V, σ = [some (.ref b), some (.ref c), some (.ref L), x, y] ∧ Ex H H' ∧ H' L = some (.lst ((foundL ((ys.map (·.2)).take i)).map V.str))) ⟨none, none, rfl, e0, l0⟩ (fun i σ H' _ hP => ?_) (fun i z σ H3 H4 hi hP hY => ?_) (fun σ H3 hP => ?_)
    · obtain ⟨_, _, _, e1, _⟩ := hP
      exact SqL.of (e1 _ _ hc)
    · obtain ⟨x, y, rfl, e1, l1⟩ := hP
      obtain ⟨rfl, hz⟩ := hY
      rw [List.getElem?_map] at hz
      cases ht : ys[i]? with
      | none => rw [ht] at hz; exact nomatch hz
      | some t =>
        rw [ht] at hz
        cases hz
        have tm := ta.ex e1 t (List.mem_of_getElem? ht)
        refine ⟨t.1, [.str t.2.1, .str t.2.2], rfl, SqT.of tm, rfl, .str t.2.1, [.str t.2.2], rfl, ?_⟩
        walk_at "rd"
        refine ⟨.str t.2.2, [], rfl, ?_⟩
        walk_at "rd"
        refine ⟨rfl, ?_⟩
        walk_at "rd"
        refine ⟨_, rfl, Or.inl ⟨rfl, _, SqL.of l1⟩, ?_⟩
        walk_at "rd"
        refine ⟨small64 (n := 2) (by decide), fun M hM hMm => ?_⟩
        have nLM : L ≠ M := fun e => by
          rw [← e, l1] at hM
          exact nomatch hM
        have fl : (foundL ((ys.map (·.2)).take i)).length ≤ 60 := by
          have z := found_len ((ys.map (·.2)).take i)
          rw [List.length_take, List.length_map] at z
          omega
        have st : foundL ((ys.map (·.2)).take (i + 1)) = foundL ((ys.map (·.2)).take i) ++ [t.2.1, t.2.2] := by
          rw [List.take_add_one, List.getElem?_map, ht]
          unfold foundL
          rw [List.flatMap_append]
          rfl
        refine ⟨L, M, _, _, rfl, rfl, (upd_ne nLM).trans l1, upd_same, ?_, ?_⟩
        · rw [List.length_map]
          exact small64 (n := _) (by show (foundL ((ys.map (·.2)).take i)).length + 2 < 64; omega)
        · refine ⟨_, _, rfl, (e1.trans (Ex.new hM)).mut hL, ?_⟩
          rw [st, List.map_append]
          exact upd_same
    · obtain ⟨x, y, rfl, e1, l1⟩ := hP
      rw [List.length_map, ← List.length_map (as := ys) (·.2), List.take_length] at l1
      walk_at "rd"
      have fl : (foundL (ys.map (·.2))).length ≤ 60 := by
        have z := found_len (ys.map (·.2))
        rw [List.length_map] at z
        omega
      refine fun d hd => ?_
      walk_at "rd"
      have l2 : (upd H3 d (.dK [])) L = some (.lst ((foundL (ys.map (·.2))).map V.str)) := Ex.new hd _ _ l1
      have hdd : (upd H3 d (.dK [])) d = some (.dK []) := upd_same
      have e2 : Ex H (upd H3 d (.dK [])) := e1.trans (Ex.new hd)
      generalize upd H3 d (.dK []) = H4 at l2 hdd e2 ⊢
      refine ⟨_, rfl, L, foundL (ys.map (·.2)), rfl, Or.inl (SqL.of l2), by omega, fun S hS => ?_⟩
      walk_at "rd"
      have ol : (OwT.once (foundL (ys.map (·.2)))).length < 64 := by
        have z := OwT.once_len (foundL (ys.map (·.2)))
        omega
      refine ⟨S, OwT.once (foundL (ys.map (·.2))), rfl, upd_same, ol, fun ks kp pm so hkp => ?_⟩
      have kpw : ks.Pairwise (fun a b => OwL2.lt a b = true) := ascB_pw (r := OwL2.lt) (fun h g => lt_tr h g) (asc_sorted so (pm.symm.nodup (OwT.once_nodup _)))
      have kmem : ∀ k, k ∈ ks ↔ ∃ t ∈ ys.map (·.2), k = t.1 ∨ k = t.2 := fun k => by
        rw [pm.mem_iff, OwT.once_mem]
        unfold foundL
        rw [List.mem_flatMap]
        simp only [List.mem_cons, List.not_mem_nil, or_false]
      have e3 : Ex H4 (upd (upd H4 S (OwT.TxO P w S (OwT.once (foundL (ys.map (·.2)))))) kp (.lst (ks.map V.str))) := (Ex.new hS).trans (Ex.new hkp)
      have k5 : (upd (upd H4 S (OwT.TxO P w S (OwT.once (foundL (ys.map (·.2)))))) kp (.lst (ks.map V.str))) kp = some (.lst (ks.map V.str)) := upd_same
      show tPairs _ _ (upd (upd H4 S (OwT.TxO P w S (OwT.once (foundL (ys.map (·.2)))))) kp (.lst (ks.map V.str))) _
      generalize upd (upd H4 S (OwT.TxO P w S (OwT.once (foundL (ys.map (·.2)))))) kp (.lst (ks.map V.str)) = H5 at e3 k5 ⊢
      unfold tPairs
      walk_at "rd"
      refine Rd.lcm' ?_
      refine ⟨_, rfl, c, rfl, ⟨_, SqL.of (e3 _ _ (e2 _ _ hc))⟩, fun D hD => ?_⟩
      refine lc_it (walk_list (xs := rf ys)) (fun i H' => Ex H5 H' ∧ ∃ zs : TL, H' D = some (.lst (rf zs)) ∧ zs.map (·.2) = ((ys.map (·.2)).take i).map norm ∧ TA H' zs) ⟨Ex.new hD, [], upd_same, rfl, fun _ h => nomatch h⟩ (fun i H' _ hP => SqL.of (hP.1 _ _ (e3 _ _ (e2 _ _ hc)))) (fun i z Ha Hb hi hP hY => ?_) (fun H6 hP => ?_)
      · obtain ⟨e5, zs, hz5, hzm, taz⟩ := hP
        obtain ⟨rfl, hz⟩ := hY
        rw [List.getElem?_map] at hz
        cases ht : ys[i]? with
        | none => rw [ht] at hz; exact nomatch hz
        | some t =>
          rw [ht] at hz
          cases hz
          have tm := ta.ex ((e2.trans e3).trans e5) t (List.mem_of_getElem? ht)
          refine ⟨t.1, [.str t.2.1, .str t.2.2], rfl, SqT.of tm, rfl, .str t.2.1, [.str t.2.2], rfl, ?_⟩
          walk_at "rd"
          refine ⟨.str t.2.2, [], rfl, ?_⟩
          walk_at "rd"
          refine ⟨rfl, ?_⟩
          show _ ∧ _
          refine ⟨rfl, ?_⟩
          unfold tYes
          show (if (true : Bool) = true then _ else _)
          rw [if_pos rfl]
          walk_at "rd"
          have zl : zs.length ≤ 30 := by
            have z : (zs.map (·.2)).length = _ := congrArg List.length hzm
            rw [List.length_map, List.length_map, List.length_take, List.length_map] at z
            omega
          refine ⟨t.2.1, t.2.2, rfl, fun r H7 e7 hr7 hrn => ⟨rf zs, e7 _ _ hz5, sz_lt (by rw [List.length_map]; omega), (e5.trans e7).mut hD, zs ++ [(r, norm t.2)], ?_, ?_, fun z hz => ?_⟩⟩
          · show _ = some (HO.lst (List.map (fun p => V.ref p.1) (zs ++ [(r, norm t.2)])))
            rw [List.map_append]
            exact upd_same
          · rw [List.map_append, hzm, List.take_add_one, List.getElem?_map, ht, List.map_append]
            rfl
          · have hDD := e7 _ _ hz5
            have key : H7 z.1 = some (.tup [V.str z.2.1, V.str z.2.2]) := by
              rcases List.mem_append.mp hz with y | y
              · exact e7 _ _ (taz z y)
              · rw [List.mem_singleton.mp y]
                exact hr7
            have ne : z.1 ≠ D := fun e => by
              rw [e, hDD] at key
              exact nomatch key
            exact (upd_ne ne).trans key
      · obtain ⟨e5, zs, hz5, hzm, taz⟩ := hP
        walk_at "rd"
        rw [List.length_map, ← List.length_map (as := ys) (·.2), List.take_length] at hzm
        have zl : zs.length ≤ 30 := by
          have z : (zs.map (·.2)).length = _ := congrArg List.length hzm
          rw [List.length_map, List.length_map, List.length_map] at z
          omega
        have L0r : (zs.map fun z => ((z.1, [z.2.1, z.2.2]) : Addr × List Str)).map (fun p => V.ref p.1) = rf zs := by
          rw [List.map_map]
          rfl
        have L0p : (zs.map fun z => ((z.1, [z.2.1, z.2.2]) : Addr × List Str)).map prS = zs.map (·.2) := by
          rw [List.map_map]
          rfl
        have L02 : ∀ p ∈ (zs.map fun z => ((z.1, [z.2.1, z.2.2]) : Addr × List Str)), p.2.length = 2 ∧ H6 p.1 = some (.tup (p.2.map V.str)) := fun p hp => by
          obtain ⟨z, hz, rfl⟩ := List.mem_map.mp hp
          exact ⟨rfl, taz z hz⟩
        have L0l : (zs.map fun z => ((z.1, [z.2.1, z.2.2]) : Addr × List Str)).length ≤ 60 := by
          rw [List.length_map]
          omega
        generalize (zs.map fun z => ((z.1, [z.2.1, z.2.2]) : Addr × List Str)) = L0 at L0r L0p L02 L0l
        refine ⟨D, L0, rfl, Or.inl (SqL.of (by rw [L0r]; exact hz5)), fun p hp => SqT.of (L02 p hp).2, L0l, fun S2 L2 of nd2 hS2 => ?_⟩
        walk_at "rd"
        refine ⟨S2, L2, 2, rfl, upd_same, fun p hp => SqT.of (Ex.new hS2 _ _ (L02 p (of.sub p hp)).2), by decide, fun p hp => (L02 p (of.sub p hp)).1, fun xs tp px htp => ?_⟩
        have hd6 : H6 d = some (.dK []) := e5 _ _ (e3 _ _ hdd)
        have E8 : Ex H6 (upd (upd H6 S2 (OwP.TpO P w S2 L2)) tp (.lst ((xs.mergeSort OwP.le).map fun p => V.ref p.1))) := (Ex.new hS2).trans (Ex.new htp)
        have t8 : (upd (upd H6 S2 (OwP.TpO P w S2 L2)) tp (.lst ((xs.mergeSort OwP.le).map fun p => V.ref p.1))) tp = some (.lst ((xs.mergeSort OwP.le).map fun p => V.ref p.1)) := upd_same
        show tPairs [] _ (upd (upd H6 S2 (OwP.TpO P w S2 L2)) tp (.lst ((xs.mergeSort OwP.le).map fun p => V.ref p.1))) _
        generalize upd (upd H6 S2 (OwP.TpO P w S2 L2)) tp (.lst ((xs.mergeSort OwP.le).map fun p => V.ref p.1)) = H8 at E8 t8 ⊢
        unfold tPairs
        refine ⟨E8 _ _ hd6, [(Sum.inr "places", .ref kp), (Sum.inr "ties", .ref tp)], rfl, by simp, ?_⟩
        have hdn : H d = none := by
          cases c : H d with
          | none => rfl
          | some o =>
            have z := e1 _ _ c
            rw [hd] at z
            exact nomatch z
        obtain ⟨pw, mem⟩ := sort_pairs (fun p hp => (L02 p hp).1) of nd2 px
        have fin : (xs.mergeSort OwP.le).map prS = ((xs.mergeSort OwP.le).map fun p => (p.1, prS p)).map (·.2) := by
          rw [List.map_map]
          rfl
        have d8 := E8 _ _ hd6
        have k8 := E8 _ _ (e5 _ _ k5)
        have nk : kp ≠ d := fun e => by
          rw [e, d8] at k8
          exact nomatch k8
        have nt : tp ≠ d := fun e => by
          rw [e, d8] at t8
          exact nomatch t8
        refine k d _ ks ((xs.mergeSort OwP.le).map fun p => (p.1, prS p)) ((e2.trans (e3.trans (e5.trans E8))).mut hdn) ⟨⟨kp, tp, upd_same, (upd_ne nk).trans k8, (upd_ne nt).trans ?_⟩, fun z hz => ?_⟩ kpw kmem (by rw [← fin]; exact pw) (fun t => by rw [← fin, mem t, L0p, hzm]) hdn
        · rw [t8]
          show _ = some (HO.lst (List.map (fun p => V.ref p.1) ((xs.mergeSort OwP.le).map fun p => (p.1, prS p))))
          rw [List.map_map]
          rfl
        · obtain ⟨p, hp, rfl⟩ := List.mem_map.mp hz
          have pl := of.sub p (px.mem_iff.mp ((List.mergeSort_perm xs OwP.le).mem_iff.mp hp))
          have y := E8 _ _ (L02 p pl).2
          rw [pr_of (L02 p pl).1] at y
          have ne : p.1 ≠ d := fun e => by
            rw [e, d8] at y
            exact nomatch y
          exact (upd_ne ne).trans y
end
end OwW


namespace OwW
open PySem PyProof.Rows L2 L2H OwX Rd Evl
abbrev sLNames : Stmt := top 52
abbrev sPairs : Stmt := top 51
abbrev NPa : List Str := ["_law_places", "_law_found", "_law_at", "_law_other"]
def names14 : List Str := ["a", "b", "c", "d", "e", "f", "has", "home", "owes", "ra", "tie", "zz", "zzzzzzzz", "ab"]
theorem names14_ok : (∀ k ∈ names14, nameB k = true) := by
  have z : names14.all nameB = true := by decide +kernel
  exact List.all_eq_true.mp z
theorem names14_nd : names14.Nodup := by decide +kernel
def spLNames : Sp := fun vs H Q _ => vs = [] ∧ ∀ p H', Ex H H' → H' p = some (.lst (names14.map V.str)) → H p = none → Q (.ref p) H'
/-- a tie of two of ks -/
def Made (ks : List Str) (t : Str × Str) : Prop := ∃ a b, a ∈ ks ∧ b ∈ ks ∧ a ≠ b ∧ t = norm (a, b)
theorem cut_drop (xs : List V) {i : Nat} (h : i < xs.length) : cutV xs (some (0 + (i : Int) + 1)) none = xs.drop (i + 1) := by
  unfold cutV
  have e1 : HT.sIx xs.length 0 (some (0 + (i : Int) + 1)) = i + 1 := by
    have c : (0 + (i : Int) + 1) = ((i + 1 : Nat) : Int) := by omega
    rw [c, HT.sIx_nat]
    omega
  have e2 : HT.sIx xs.length xs.length none = xs.length := rfl
  rw [e1, e2]
  exact List.take_of_length_le (by rw [List.length_drop]; omega)
def spPairs : Sp := fun vs H Q _ => ∃ (b : Addr) (ks : List Str), vs = [.ref b] ∧ H b = some (.lst (ks.map V.str)) ∧ ks.length ≤ 9 ∧ ks.Nodup ∧
  ∀ p H' (zs : TL), Ex H H' → H' p = some (.lst (rf zs)) → TA H' zs → zs.length ≤ 100 → (∀ t ∈ zs.map (·.2), Made ks t) → H p = none → Q (.ref p) H'
section
variable {P : Program} {w : World} {K : PySem.W.Frag} {mg : Str → Option Value} {base : Heap}
theorem scLNames : FnScope [] [] (defScope sLNames) := ⟨rfl, rfl, rfl, by decide +kernel, rfl, by decide +kernel, by decide +kernel⟩
theorem ok_lnames {f : Addr} {fd : FuncData} (F : Fun K "_law_names" "_law_names" sLNames f fd) : FnOk P w K mg base CX0 1 f fd [] spLNames := by
  refine F.ok scLNames (fun vs H Q E h => ?_) (fun cdv A outer s H vs Q E hr h => ⟨_, (pss_one (ps_ret (pe_lstN (pa_cons pe_str (pa_cons pe_str (pa_cons pe_str (pa_cons pe_str (pa_cons pe_str (pa_cons pe_str (pa_cons pe_str (pa_cons pe_str (pa_cons pe_str (pa_cons pe_str (pa_cons pe_str (pa_cons pe_str (pa_cons pe_str (pa_cons pe_str pa_nil))))))))))))))))), ?_⟩)
  · obtain ⟨rfl, _⟩ := h
    rfl
  · obtain ⟨rfl, k⟩ := h
    walk_at "rd"
    refine ⟨small64 (n := 14) (by decide), fun p hp _ => ?_⟩
    exact k p _ (Ex.new hp) upd_same hp
theorem scPairs : FnScope NPa ["_law_places"] (defScope sPairs) := ⟨rfl, rfl, rfl, by decide +kernel, rfl, by decide +kernel, by decide +kernel⟩
theorem ok_pairs {f g : Addr} {fd gd : FuncData} (F : Fun K "_law_pairs" "_law_pairs" sPairs f fd) (FT : Fun K "_law_tie" "_law_tie" sTie g gd) (gT : mg "_law_tie" = some (.ref g)) (GT : FnOk P w K mg base CX0 1 g gd ["_law_a", "_law_b"] spTie) (T : BltM mg) : FnOk P w K mg base CX0 2 f fd ["_law_places"] spPairs := by
  have nd := scPairs.nd
  have bT : Binds K gd ["_law_a", "_law_b"] [] := FT.binds fun _ _ _ _ _ _ us hl => match us, hl with | [_, _], _ => rfl
  refine F.ok scPairs (fun vs H Q E h => ?_) (fun cdv A outer s H vs Q E hr h => ⟨_, (pss_cons (ps_set (i := 1) nd rfl (Or.inl rfl) (pe_lstN pa_nil))
    (pss_cons (ps_for PassesOwn.never rfl (pi_range1 rfl T.range (pa_cons (pe_callB call_len_seq (by rfl) T.len (by decide +kernel) (pa_cons (pv 0) pa_nil)) pa_nil)) (pg_name (i := 2) nd rfl (Or.inr rfl)) (pss_one (ps_expr (pe_bm PySem.F.plainAttrs_list PySem.F.slot_list_extend PySem.F.type_list_extend mt_extend (pv 1) (pa_cons (pe_lc (own := [("_law_other", 3)]) (g := gName 3) (tt := tYes) (te := tCall spTie [] E0 (tCons (tOp (rIxL K) (tVar 0) (tVar 2)) (tCons (tVar 3) tNil))) rfl nd (pi_list (pe_slice sl_list (pv 0) (po_some (pe_op op_add (pv 2) pe_int)) po_none)) (blkOk_by (own := [("_law_other", 3)]) (N := NPa) (sc := defScope sPairs) (by decide +kernel)) (fun _ _ _ _ _ => (pg_name (i := 3) nd rfl (Or.inl rfl))) (fun _ _ _ _ _ => pts_nil) (fun _ _ _ _ _ => (pe_call GT (hr.mono (by decide)) (by rfl) gT FT.kp bT .nil pass0 (pa_cons (pe_ix ix_list (pv 0) (pv 2) (fun _ _ => rfl)) (pa_cons (pv 3) pa_nil))))) pa_nil)))))
    (pss_one (ps_ret (pe_callB (OwP.cr_sortTp hr.units) (by rfl) T.sorted (by decide +kernel) (pa_cons (pv 1) pa_nil)))))), ?_⟩)
  · obtain ⟨b, ks, rfl, _⟩ := h
    rfl
  · obtain ⟨b, ks, rfl, hb, h9, kn, k⟩ := h
    walk_at "rd"
    refine ⟨small64 (n := 0) (by decide), fun G hG _ => ?_⟩
    have e0 : Ex H (upd H G (.lst [])) := Ex.new hG
    have g0 : (upd H G (.lst [])) G = some (.lst (rf [])) := upd_same
    generalize upd H G (.lst []) = H1 at e0 g0 ⊢
    walk_at "rd"
    with_reducible refine Rd.for' (Rd.irng' ?_)
    walk_at "rd"
    refine ⟨b, _, rfl, Or.inl (SqL.of (e0 _ _ hb)), ?_⟩
    walk_at "rd"
    rw [List.length_map]
    refine ⟨_, rfl, by omega, by omega, ?_⟩
    refine for_it walk_range (fun i σ H' => ∃ (x y : Option V) (zs : TL), σ = [some (.ref b), some (.ref G), x, y] ∧ Ex H H' ∧ H' G = some (.lst (rf zs)) ∧ TA H' zs ∧ zs.length ≤ 10 * i ∧ (∀ t ∈ zs.map (·.2), Made ks t)) ⟨none, none, [], rfl, e0, g0, (fun _ h => nomatch h), Nat.zero_le _, fun _ h => nomatch h⟩ (fun _ _ _ _ _ => trivial) (fun i z σ H3 H4 hi hP hY => ?_) (fun σ H3 hP => ?_)
    · obtain ⟨x, y, zs, rfl, e1, hz1, taz, zl, made⟩ := hP
      obtain ⟨rfl, rfl⟩ := hY
      have hi' : i < ks.length := hi
      walk_at "rd"
      refine ⟨_, rfl, Or.inl ⟨rfl, _, SqL.of hz1⟩, ?_⟩
      walk_at "rd"
      refine Rd.lcm' (Rd.ilist' ?_)
      walk_at "rd"
      refine ⟨_, rfl, ?_⟩
      walk_at "rd"
      refine ⟨_, rfl, ?_⟩
      walk_at "rd"
      refine ⟨_, rfl, ?_⟩
      walk_at "rd"
      have b4 := e1 _ _ hb
      obtain ⟨a, hka⟩ : ∃ a, ks[i]? = some a := ⟨_, List.getElem?_eq_getElem hi'⟩
      have ec : cutV (ks.map V.str) (some (0 + (i : Int) + 1)) none = (ks.drop (i + 1)).map V.str := by rw [cut_drop _ (by rw [List.length_map]; omega), List.map_drop]
      refine ⟨b, _, rfl, SqL.of b4, fun S hS => ⟨S, rfl, ⟨_, SqL.of upd_same⟩, ?_⟩⟩
      rw [ec]
      have e5 : Ex H4 (upd H4 S (.lst ((ks.drop (i + 1)).map V.str))) := Ex.new hS
      have s5 : (upd H4 S (.lst ((ks.drop (i + 1)).map V.str))) S = some (.lst ((ks.drop (i + 1)).map V.str)) := upd_same
      generalize upd H4 S (.lst ((ks.drop (i + 1)).map V.str)) = H5 at e5 s5 ⊢
      refine fun D hD => ?_
      refine lc_it (walk_list (xs := (ks.drop (i + 1)).map V.str)) (fun j H' => Ex H5 H' ∧ ∃ ws : TL, H' D = some (.lst (rf ws)) ∧ TA H' ws ∧ ws.length ≤ j ∧ ∀ t ∈ ws.map (·.2), Made ks t) ⟨Ex.new hD, [], upd_same, (fun _ h => nomatch h), Nat.zero_le _, fun _ h => nomatch h⟩ (fun j H' _ hP => SqL.of (hP.1 _ _ s5)) (fun j z Ha Hb hj hP hY => ?_) (fun H6 hP => ?_)
      · obtain ⟨e6, ws, hw6, taw, wl, mw⟩ := hP
        obtain ⟨rfl, hz⟩ := hY
        rw [List.getElem?_map, List.getElem?_drop] at hz
        cases hkb : ks[i + 1 + j]? with
        | none => rw [hkb] at hz; exact nomatch hz
        | some c =>
          rw [hkb] at hz
          cases hz
          have jl : j ≤ 9 := by
            rw [List.length_map, List.length_drop] at hj
            omega
          show _ ∧ _
          refine ⟨rfl, ?_⟩
          unfold tYes
          show (if (true : Bool) = true then _ else _)
          rw [if_pos rfl]
          walk_at "rd"
          have a0 : atI (ks.map V.str) (0 + (i : Int)) = some (.str a) := by
            unfold atI ixN
            rw [if_pos (by omega), if_pos (by rw [List.length_map]; omega)]
            show (ks.map V.str)[(0 + (i : Int)).toNat]? = _
            have c : (0 + (i : Int)).toNat = i := by omega
            rw [c, List.getElem?_map, hka]
            rfl
          show rIxL K (.ref b) (.int (0 + (i : Int))) Hb _
          refine Rd.ixl (SqL.of (e6 _ _ (e5 _ _ b4))) a0 ?_
          walk_at "rd"
          have nac : a ≠ c := fun e => by
            have z := (List.getElem?_inj hi' kn).mp (hka.trans (by rw [hkb, e]))
            omega
          refine ⟨a, c, rfl, fun r H7 e7 hr7 hrn => ⟨rf ws, e7 _ _ hw6, sz_lt (by unfold rf; rw [List.length_map]; omega), (e6.trans e7).mut hD, ws ++ [(r, norm (a, c))], ?_, fun z hz => ?_, ?_, fun t ht => ?_⟩⟩
          · unfold rf
            rw [List.map_append]
            exact upd_same
          · have hDD := e7 _ _ hw6
            have key : H7 z.1 = some (.tup [V.str z.2.1, V.str z.2.2]) := by
              rcases List.mem_append.mp hz with y | y
              · exact e7 _ _ (taw z y)
              · rw [List.mem_singleton.mp y]
                exact hr7
            have ne : z.1 ≠ D := fun e => by
              rw [e, hDD] at key
              exact nomatch key
            exact (upd_ne ne).trans key
          · rw [List.length_append]
            exact Nat.add_le_add_right wl 1
          · rw [List.map_append] at ht
            rcases List.mem_append.mp ht with y | y
            · exact mw t y
            · rw [List.mem_singleton.mp y]
              exact ⟨a, c, List.mem_of_getElem? hka, List.mem_of_getElem? hkb, nac, rfl⟩
      · obtain ⟨e6, ws, hw6, taw, wl, mw⟩ := hP
        rw [List.length_map, List.length_drop] at wl
        walk_at "rd"
        have g6 := e6 _ _ (e5 _ _ hz1)
        refine ⟨G, D, rf zs, rf ws, rfl, rfl, g6, hw6, ?_, ?_⟩
        · unfold rf
          rw [List.length_map, List.length_map]
          exact Nat.le_of_lt (sz_lt (by omega))
        · walk_at "rd"
          refine ⟨_, _, zs ++ ws, rfl, (e1.trans (e5.trans e6)).mut hG, ?_, fun z hz => ?_, ?_, fun t ht => ?_⟩
          · unfold rf
            rw [List.map_append]
            exact upd_same
          · have key : H6 z.1 = some (.tup [V.str z.2.1, V.str z.2.2]) := by
              rcases List.mem_append.mp hz with y | y
              · exact e6 _ _ (e5 _ _ (taz z y))
              · exact taw z y
            have ne : z.1 ≠ G := fun e => by
              rw [e, g6] at key
              exact nomatch key
            exact (upd_ne ne).trans key
          · rw [List.length_append]
            omega
          · rw [List.map_append] at ht
            rcases List.mem_append.mp ht with y | y
            · exact made t y
            · exact mw t y
    · obtain ⟨x, y, zs, rfl, e1, hz1, taz, zl, made⟩ := hP
      have zl' : zs.length ≤ 10 * ks.length := zl
      walk_at "rd"
      have L0r : (zs.map fun z => ((z.1, [z.2.1, z.2.2]) : Addr × List Str)).map (fun p => V.ref p.1) = rf zs := by
        rw [List.map_map]
        rfl
      have L0p : (zs.map fun z => ((z.1, [z.2.1, z.2.2]) : Addr × List Str)).map prS = zs.map (·.2) := by
        rw [List.map_map]
        rfl
      have L02 : ∀ p ∈ (zs.map fun z => ((z.1, [z.2.1, z.2.2]) : Addr × List Str)), p.2.length = 2 ∧ H3 p.1 = some (.tup (p.2.map V.str)) := fun p hp => by
        obtain ⟨z, hz, rfl⟩ := List.mem_map.mp hp
        exact ⟨rfl, taz z hz⟩
      have L0l : (zs.map fun z => ((z.1, [z.2.1, z.2.2]) : Addr × List Str)).length ≤ 90 := by
        rw [List.length_map]
        omega
      generalize (zs.map fun z => ((z.1, [z.2.1, z.2.2]) : Addr × List Str)) = L0 at L0r L0p L02 L0l
      refine ⟨G, L0, 2, rfl, SqL.of (by rw [L0r]; exact hz1), fun p hp => SqT.of (L02 p hp).2, by decide, fun p hp => (L02 p hp).1, by omega, fun p hp => ?_⟩
      have hpH : H p = none := by
        cases c : H p with
        | none => rfl
        | some o =>
          have z := e1 _ _ c
          rw [hp] at z
          exact nomatch z
      refine k p _ ((L0.mergeSort OwP.le).map fun p => (p.1, prS p)) (e1.trans (Ex.new hp)) ?_ (fun z hz => ?_) (by rw [List.length_map, List.length_mergeSort]; omega) (fun t ht => ?_) hpH
      · show _ = some (HO.lst (List.map (fun p => V.ref p.1) ((L0.mergeSort OwP.le).map fun p => (p.1, prS p))))
        rw [List.map_map]
        exact upd_same
      · obtain ⟨q, hq, rfl⟩ := List.mem_map.mp hz
        have ql := (List.mergeSort_perm L0 OwP.le).mem_iff.mp hq
        have y := (L02 q ql).2
        rw [pr_of (L02 q ql).1] at y
        exact Ex.new hp _ _ y
      · rw [List.map_map] at ht
        obtain ⟨q, hq, rfl⟩ := List.mem_map.mp ht
        have ql := (List.mergeSort_perm L0 OwP.le).mem_iff.mp hq
        refine made (prS q) ?_
        rw [← L0p]
        exact List.mem_map.mpr ⟨q, ql, rfl⟩
end
end OwW

namespace OwW
open PySem PyProof.Rows L2 L2H OwX Rd Evl
theorem norm_cases (a b : Str) (n : a ≠ b) : (norm (a, b) = (a, b) ∧ OwL2.lt a b = true) ∨ (norm (a, b) = (b, a) ∧ OwL2.lt b a = true) := by
  unfold norm OwL2.minS OwL2.maxS
  cases c : OwL2.lt b a with
  | true =>
    have d : OwL2.lt a b = false := by
      cases d : OwL2.lt a b with
      | false => rfl
      | true =>
        have z := lt_tr c d
        rw [lt_irr] at z
        exact nomatch z
    right
    rw [d]
    exact ⟨rfl, rfl⟩
  | false =>
    have d := lt_tot c fun e => n e.symm
    left
    rw [d]
    exact ⟨rfl, rfl⟩
theorem made_lt {ks : List Str} {t : Str × Str} (m : Made ks t) : t.1 ∈ ks ∧ t.2 ∈ ks ∧ OwL2.lt t.1 t.2 = true := by
  obtain ⟨a, b, ha, hb, n, rfl⟩ := m
  rcases norm_cases a b n with ⟨e, l⟩ | ⟨e, l⟩
  · rw [e]; exact ⟨ha, hb, l⟩
  · rw [e]; exact ⟨hb, ha, l⟩
theorem made_norm {ks : List Str} {t : Str × Str} (m : Made ks t) : norm t = t := by
  have l := (made_lt m).2.2
  obtain ⟨x, y⟩ := t
  have n : x ≠ y := fun e => by
    have l' : OwL2.lt x y = true := l
    rw [e, lt_irr] at l'
    exact nomatch l'
  rcases norm_cases x y n with ⟨e, _⟩ | ⟨e, l'⟩
  · exact e
  · have z := lt_tr (show OwL2.lt x y = true from l) l'
    rw [lt_irr] at z
    exact nomatch z
theorem ends_mem {ts : List (Str × Str)} {a b : Str} (h : b ∈ endsL ts a) : (a, b) ∈ ts ∨ (b, a) ∈ ts := by
  unfold endsL at h
  obtain ⟨t, ht, rfl⟩ := List.mem_map.mp h
  obtain ⟨h1, h2⟩ := List.mem_filter.mp ht
  obtain ⟨x, y⟩ := t
  unfold hits at h2
  unfold far
  by_cases c : x = a
  · rw [if_pos c]
    left
    rw [← c]
    exact h1
  · rw [if_neg c]
    have d : y = a := by
      have z : (decide (x = a) || decide (y = a)) = true := h2
      rw [decide_eq_false c, Bool.false_or] at z
      exact of_decide_eq_true z
    right
    rw [← d]
    exact h1
theorem mem_ends1 {ts : List (Str × Str)} {a b : Str} (h : (a, b) ∈ ts) : b ∈ endsL ts a := by
  unfold endsL
  refine List.mem_map.mpr ⟨(a, b), List.mem_filter.mpr ⟨h, ?_⟩, ?_⟩
  · show (decide (a = a) || _) = true
    rw [decide_eq_true rfl, Bool.true_or]
  · unfold far
    rw [if_pos rfl]
theorem mem_ends2 {ts : List (Str × Str)} {a b : Str} (n : a ≠ b) (h : (b, a) ∈ ts) : b ∈ endsL ts a := by
  unfold endsL
  refine List.mem_map.mpr ⟨(b, a), List.mem_filter.mpr ⟨h, ?_⟩, ?_⟩
  · show (_ || decide (a = a)) = true
    rw [decide_eq_true rfl, Bool.or_true]
  · unfold far
    rw [if_neg fun e => n e.symm]
theorem ends_symm {ts : List (Str × Str)} (hn : ∀ t ∈ ts, t.1 ≠ t.2) {a b : Str} (h : b ∈ endsL ts a) : a ∈ endsL ts b := by
  rcases ends_mem h with z | z
  · exact mem_ends2 (fun e => hn _ z e.symm) z
  · exact mem_ends1 z
theorem Rch.trans {ts : List (Str × Str)} {x y z : Str} (h : Rch ts x y) (g : Rch ts y z) : Rch ts x z := by
  induction g with
  | here => exact h
  | on _ hb ih => exact .on ih hb
theorem Rch.symm {ts : List (Str × Str)} (hn : ∀ t ∈ ts, t.1 ≠ t.2) {x y : Str} (h : Rch ts x y) : Rch ts y x := by
  induction h with
  | here => exact .here
  | on _ hb ih => exact (Rch.on .here (ends_symm hn hb)).trans ih
theorem tied {ts : List (Str × Str)} {a b : Str} (n : a ≠ b) (h : norm (a, b) ∈ ts) : Rch ts a b := by
  rcases norm_cases a b n with ⟨e, _⟩ | ⟨e, _⟩
  · rw [e] at h
    exact .on .here (mem_ends1 h)
  · rw [e] at h
    exact .on .here (mem_ends2 n h)
/-- each name behind the first one is tied to one before it -/
def Tree (ns : List Str) (ts : List (Str × Str)) : Prop := ∀ i a, 1 ≤ i → ns[i]? = some a → ∃ j b, j < i ∧ ns[j]? = some b ∧ norm (a, b) ∈ ts
theorem tree_rch {ns : List Str} {ts : List (Str × Str)} (nd : ns.Nodup) (hn : ∀ t ∈ ts, t.1 ≠ t.2) (T : Tree ns ts) {x : Str} (hx : ns[0]? = some x) : ∀ (m i : Nat) (a : Str), i ≤ m → ns[i]? = some a → Rch ts x a
  | m, 0, a, _, ha => by
    rw [hx] at ha
    cases ha
    exact .here
  | 0, i + 1, a, hi, _ => absurd hi (by omega)
  | m + 1, i + 1, a, hi, ha => by
    obtain ⟨j, b, hj, hb, ht⟩ := T (i + 1) a (by omega) ha
    have ih := tree_rch nd hn T hx m j b (by omega) hb
    have nab : a ≠ b := fun e => by
      have z := (List.getElem?_inj (List.getElem?_eq_some_iff.mp ha).1 nd).mp (ha.trans (by rw [hb, e]))
      omega
    exact ih.trans ((tied nab ht).symm hn)
theorem nodup_leG {α : Type} [DecidableEq α] : ∀ (R ns : List α), R.Nodup → (∀ r ∈ R, r ∈ ns) → R.length ≤ ns.length
  | [], _, _, _ => Nat.zero_le _
  | r :: R, ns, nd, h => by
    obtain ⟨n1, n2⟩ := List.nodup_cons.mp nd
    have hr := h r List.mem_cons_self
    have ih := nodup_leG R (ns.erase r) n2 fun s hs => (List.mem_erase_of_ne fun e => n1 (by rw [← e]; exact hs)).mpr (h s (List.mem_cons_of_mem _ hs))
    rw [List.length_erase_of_mem hr] at ih
    have z := List.length_pos_of_mem hr
    show R.length + 1 ≤ _
    omega
theorem pw_nodup {α : Type} {r : α → α → Bool} (irr : ∀ a, r a a = false) {l : List α} (h : l.Pairwise (fun a b => r a b = true)) : l.Nodup := h.imp fun {a b} z e => by
  rw [e, irr] at z
  exact nomatch z
/-- what plain makes of the ties of a tree and others is a web -/
theorem web_of {ns : List Str} {ys : List (Str × Str)} {ks : List Str} {ts : List (Str × Str)} (nd : ns.Nodup) (two : 2 ≤ ns.length) (nine : ns.length ≤ 9) (ok : ∀ k ∈ ns, nameB k = true) (T : Tree ns ys) (M : ∀ t ∈ ys, Made ns t) (few : ys.length ≤ 18)
    (asc : ks.Pairwise (fun a b => OwL2.lt a b = true)) (km : ∀ k, k ∈ ks ↔ ∃ t ∈ ys, k = t.1 ∨ k = t.2) (tasc : ts.Pairwise (fun a b => OwL2.ltP a b = true)) (tm : ∀ t, t ∈ ts ↔ t ∈ ys.map norm) : WebOk ks ts ∧ ∀ k, k ∈ ks ↔ k ∈ ns := by
  have ty : ∀ t, t ∈ ts ↔ t ∈ ys := fun t => by
    rw [tm t]
    constructor
    · intro h
      obtain ⟨u, hu, rfl⟩ := List.mem_map.mp h
      rw [made_norm (M u hu)]
      exact hu
    · intro h
      exact List.mem_map.mpr ⟨t, h, made_norm (M t h)⟩
  have hn : ∀ t ∈ ts, t.1 ≠ t.2 := fun t ht e => by
    have z := (made_lt (M t ((ty t).mp ht))).2.2
    rw [e, lt_irr] at z
    exact nomatch z
  have T' : Tree ns ts := fun i a h1 ha => by
    obtain ⟨j, b, hj, hb, h⟩ := T i a h1 ha
    exact ⟨j, b, hj, hb, (ty _).mpr h⟩
  have kn : ∀ k, k ∈ ks ↔ k ∈ ns := fun k => by
    rw [km k]
    constructor
    · rintro ⟨t, ht, e | e⟩
      · rw [e]; exact (made_lt (M t ht)).1
      · rw [e]; exact (made_lt (M t ht)).2.1
    · intro h
      have both : ∀ a b, a ≠ b → norm (a, b) ∈ ys → ∃ t ∈ ys, (a = t.1 ∨ a = t.2) ∧ (b = t.1 ∨ b = t.2) := fun a b n ht => by
        rcases norm_cases a b n with ⟨e, _⟩ | ⟨e, _⟩
        · rw [e] at ht
          exact ⟨_, ht, Or.inl rfl, Or.inr rfl⟩
        · rw [e] at ht
          exact ⟨_, ht, Or.inr rfl, Or.inl rfl⟩
      have diff : ∀ {i j : Nat} {a b : Str}, ns[i]? = some a → ns[j]? = some b → i ≠ j → a ≠ b := fun {i j a b} ha hb hij e =>
        hij ((List.getElem?_inj (List.getElem?_eq_some_iff.mp ha).1 nd).mp (ha.trans (by rw [hb, e])))
      obtain ⟨i, hi⟩ := List.getElem?_of_mem h
      by_cases c : 1 ≤ i
      · obtain ⟨j, b, hj, hb, ht⟩ := T i k c hi
        obtain ⟨t, h1, h2, _⟩ := both k b (diff hi hb (by omega)) ht
        exact ⟨t, h1, h2⟩
      · have i0 : i = 0 := by omega
        subst i0
        obtain ⟨a, ha⟩ : ∃ a, ns[1]? = some a := ⟨_, List.getElem?_eq_getElem (by omega)⟩
        obtain ⟨j, b, hj, hb, ht⟩ := T 1 a (Nat.le_refl _) ha
        have j0 : j = 0 := by omega
        subst j0
        rw [hi] at hb
        cases hb
        obtain ⟨t, h1, _, h3⟩ := both a k (diff ha hi (by omega)) ht
        exact ⟨t, h1, h3⟩
  have knd := pw_nodup lt_irr asc
  have tnd := pw_nodup ltP_irr tasc
  have l1 := nodup_leG ks ns knd fun k hk => (kn k).mp hk
  have l2 := nodup_leG ns ks nd fun k hk => (kn k).mpr hk
  have l3 := nodup_leG ts ys tnd fun t ht => (ty t).mp ht
  obtain ⟨x, hx⟩ : ∃ x, ns[0]? = some x := ⟨_, List.getElem?_eq_getElem (by omega)⟩
  have all : ∀ k ∈ ns, Rch ts x k := fun k hk => by
    obtain ⟨i, hi⟩ := List.getElem?_of_mem hk
    exact tree_rch nd hn T' hx i i k (Nat.le_refl _) hi
  have k0 : ks.getD 0 "" ∈ ns := by
    refine (kn _).mp ?_
    cases ks with
    | nil => exact absurd (show 2 ≤ 0 by exact Nat.le_trans two l2) (by omega)
    | cons a r => exact List.mem_cons_self
  refine ⟨⟨fun k hk => ok k ((kn k).mp hk), by omega, by omega, asc, fun t ht => ?_, by omega, tasc, fun k hk => ?_⟩, kn⟩
  · have z := made_lt (M t ((ty t).mp ht))
    exact ⟨(kn _).mpr z.1, (kn _).mpr z.2.1, z.2.2⟩
  · exact ((all _ k0).symm hn).trans (all k ((kn k).mp hk))
end OwW


namespace OwW
open PySem PyProof.Rows L2 L2H OwX Rd Evl
theorem units65 {k : Nat} {A : Around} (r : Room k A) : A.units + 65 < cLine := by
  have := r.un
  omega
abbrev sLWeb : Stmt := top 53
abbrev NLw : List Str := ["_law_dice_here", "_law_most", "_law_spare", "_law_names_here", "_law_ties", "_law_free", "_law_at", "_law_tie_here"]
theorem cut_take (xs : List V) {i : Nat} (h : 2 + i ≤ xs.length) : cutV xs none (some (2 + (i : Int))) = xs.take (2 + i) := by
  unfold cutV
  have e1 : HT.sIx xs.length 0 none = 0 := rfl
  have e2 : HT.sIx xs.length xs.length (some (2 + (i : Int))) = 2 + i := by
    have c : (2 + (i : Int)) = ((2 + i : Nat) : Int) := by omega
    rw [c, HT.sIx_nat]
    omega
  rw [e1, e2]
  rfl
theorem at_nat {xs : List V} {v : V} {k : Int} (j : Nat) (hk : k = (j : Int)) (h : xs[j]? = some v) : atI xs k = some v := by
  have hl := (List.getElem?_eq_some_iff.mp h).1
  subst hk
  unfold atI ixN
  rw [if_pos (by omega), if_pos (by omega)]
  exact h
def pairD (t : Str × Str) : PyData := .tuple [.str t.1, .str t.2]
theorem dp_pairs {K : PySem.W.Frag} {H : Hp} : ∀ {zs : TL}, TA H zs → DpAll K H (rf zs) ((zs.map (·.2)).map pairD)
  | [], _ => .nil
  | z :: zs, h => .cons (.tup (SqT.of (h z List.mem_cons_self)) (.cons (.str _) (.cons (.str _) .nil))) (dp_pairs fun y hy => h y (List.mem_cons_of_mem _ hy))
theorem lay_pairs : ∀ {ts : List (Str × Str)}, (∀ t ∈ ts, nameB t.1 = true ∧ nameB t.2 = true) → PyData.canLayAll0 (ts.map pairD) = true ∧ PyData.depthAll (ts.map pairD) ≤ 1
  | [], _ => by simp [PyData.canLayAll0, PyData.depthAll]
  | t :: r, h => by
    have a := h t List.mem_cons_self
    obtain ⟨b, c⟩ := lay_pairs (ts := r) fun z hz => h z (List.mem_cons_of_mem _ hz)
    have a1 := name_ok a.1
    have a2 := name_ok a.2
    simp [PyData.canLayAll0, PyData.canLay0, PyData.depthAll, PyData.depth, pairD, a1, a2, b, c]
theorem shaped_pairs {ts : List (Str × Str)} (h : ∀ t ∈ ts, nameB t.1 = true ∧ nameB t.2 = true) : SeqAt.shaped (.list (ts.map pairD)) = true := by
  obtain ⟨a, b⟩ := lay_pairs h
  simp [SeqAt.shaped, PyData.canLay0, PyData.depth, a]
  omega
theorem cut_upto (xs : List V) (i : Nat) : cutV xs none (some (i : Int)) = xs.take i := by
  unfold cutV
  have e1 : HT.sIx xs.length 0 none = 0 := rfl
  rw [e1, HT.sIx_nat, List.drop_zero, Nat.sub_zero]
  by_cases h : i ≤ xs.length
  · rw [Nat.min_eq_left h]
  · rw [Nat.min_eq_right (by omega), List.take_of_length_le (Nat.le_refl _), List.take_of_length_le (by omega)]
theorem plain_wo {a d : Addr} {H : Hp} {ks : List Str} {zs : TL} (hd : HasDice H a) (pl : PlainAt H d ks zs) : PlainAt (wo a H) d ks zs := by
  obtain ⟨l, s, n, _, q⟩ := hd
  obtain ⟨⟨kp, tp, h1, h2, h3⟩, ta⟩ := pl
  unfold dice at q
  refine ⟨⟨kp, tp, wo_of h1 fun e => ?_, wo_of h2 fun e => ?_, wo_of h3 fun e => ?_⟩, fun t ht => wo_of (ta t ht) fun e => ?_⟩
  · rw [e, q] at h1
    exact nomatch h1
  · rw [e, q] at h2
    cases ks with
    | nil => exact nomatch h2
    | cons k r => exact nomatch h2
  · rw [e, q] at h3
    cases zs with
    | nil => exact nomatch h3
    | cons k r => exact nomatch h3
  · have z := ta t ht
    rw [e, q] at z
    exact nomatch z
theorem dx_none {a d : Addr} {H H' : Hp} (x : DX a H H') (h : H' d = none) : H d = none := by
  cases c : H d with
  | none => rfl
  | some o =>
    have da : d ≠ a := fun e => by
      obtain ⟨_, _, _, _, q⟩ := x.at_
      rw [← e, h] at q
      exact nomatch q
    have z := wo_in a _ _ _ (x.ex _ _ (wo_of c da))
    rw [h] at z
    exact nomatch z
def spLWeb : Sp := fun vs H Q _ => ∃ (a : Addr) (m sp : Nat), vs = [.ref a, .int m, .int sp] ∧ HasDice H a ∧ 2 ≤ m ∧ m ≤ 9 ∧ sp ≤ 9 ∧
  ∀ d H' (ks : List Str) (zs : TL), DX a H H' → PlainAt (wo a H') d ks zs → WebOk ks (zs.map (·.2)) → (∀ k ∈ ks, k ∈ names14) → H d = none → Q (.ref d) H'
section
variable {P : Program} {w : World} {K : PySem.W.Frag} {mg : Str → Option Value} {base : Heap}
theorem scLWeb : FnScope NLw ["_law_dice_here", "_law_most", "_law_spare"] (defScope sLWeb) := ⟨rfl, rfl, rfl, by decide +kernel, rfl, by decide +kernel, by decide +kernel⟩
theorem ok_lweb {f f1 f2 f3 f4 f5 f6 : Addr} {fd d1 d2 d3 d4 d5 d6 : FuncData} (F : Fun K "_law_web" "_law_web" sLWeb f fd)
    (FM : Fun K "_law_mixed" "_law_mixed" sMixed f1 d1) (gM : mg "_law_mixed" = some (.ref f1)) (GM : FnOk P w K mg base CX0 2 f1 d1 ["_law_dice_here", "_law_items"] spMixed)
    (FN : Fun K "_law_names" "_law_names" sLNames f2 d2) (gN : mg "_law_names" = some (.ref f2)) (GN : FnOk P w K mg base CX0 1 f2 d2 [] spLNames)
    (FR : Fun K "_law_roll" "_law_roll" sRoll f3 d3) (gR : mg "_law_roll" = some (.ref f3)) (GR : FnOk P w K mg base CX0 1 f3 d3 ["_law_dice_here", "_law_total"] spRoll)
    (FT : Fun K "_law_tie" "_law_tie" sTie f4 d4) (gT : mg "_law_tie" = some (.ref f4)) (GT : FnOk P w K mg base CX0 1 f4 d4 ["_law_a", "_law_b"] spTie)
    (FP : Fun K "_law_pairs" "_law_pairs" sPairs f5 d5) (gP : mg "_law_pairs" = some (.ref f5)) (GP : FnOk P w K mg base CX0 2 f5 d5 ["_law_places"] spPairs)
    (FL : Fun K "_law_plain" "_law_plain" sPlain f6 d6) (gL : mg "_law_plain" = some (.ref f6)) (GL : FnOk P w K mg base CX0 2 f6 d6 ["_law_places", "_law_ties"] spPlain) (T : BltM mg) : FnOk P w K mg base CX0 3 f fd ["_law_dice_here", "_law_most", "_law_spare"] spLWeb := by
  have nd := scLWeb.nd
  have bM : Binds K d1 ["_law_dice_here", "_law_items"] [] := FM.binds fun _ _ _ _ _ _ us hl => match us, hl with | [_, _], _ => rfl
  have bN : Binds K d2 [] [] := FN.binds fun _ _ _ _ _ _ us hl => match us, hl with | [], _ => rfl
  have bR := rollBinds FR
  have bT : Binds K d4 ["_law_a", "_law_b"] [] := FT.binds fun _ _ _ _ _ _ us hl => match us, hl with | [_, _], _ => rfl
  have bP : Binds K d5 ["_law_places"] [] := FP.binds fun _ _ _ _ _ _ us hl => match us, hl with | [_], _ => rfl
  have bL : Binds K d6 ["_law_places", "_law_ties"] [] := FL.binds fun _ _ _ _ _ _ us hl => match us, hl with | [_, _], _ => rfl
  refine F.ok scLWeb (fun vs H Q E h => ?_) (fun cdv A outer s H vs Q E hr h => ⟨_, (pss_cons (ps_set (i := 3) nd rfl (Or.inr rfl) (pe_slice sl_list (pe_call GM (hr.mono (by decide)) (by rfl) gM FM.kp bM .nil pass0 (pa_cons (pv 0) (pa_cons (pe_call0 GN (hr.mono (by decide)) (by rfl) gN FN.kp bN .nil pass0) pa_nil))) po_none (po_some (pe_op op_add pe_int (pe_call GR (hr.mono (by decide)) (by rfl) gR FR.kp bR .nil pass0 (pa_cons (pv 0) (pa_cons (pe_op op_sub (pv 1) pe_int) pa_nil)))))))
    (pss_cons (ps_set (i := 4) nd rfl (Or.inr rfl) (pe_lc (own := [("_law_at", 6)]) (g := gName 6) (tt := tYes) (te := tCall spTie [] E0 (tCons (tOp (rIxL K) (tVar 3) (tVar 6)) (tCons (tOp (rIxL K) (tVar 3) (tCall spRoll [] E0 (tCons (tVar 0) (tCons (tVar 6) tNil)))) tNil))) rfl nd (pi_range2 rfl T.range (pa_cons pe_int (pa_cons (pe_callB call_len_seq (by rfl) T.len (by decide +kernel) (pa_cons (pv 3) pa_nil)) pa_nil))) (blkOk_by (own := [("_law_at", 6)]) (N := NLw) (sc := defScope sLWeb) (by decide +kernel)) (fun _ _ _ _ _ => (pg_name (i := 6) nd rfl (Or.inl rfl))) (fun _ _ _ _ _ => pts_nil) (fun _ _ _ _ _ => (pe_call GT (hr.mono (by decide)) (by rfl) gT FT.kp bT .nil pass0 (pa_cons (pe_ix ix_list (pv 3) (pv 6) (fun _ _ => rfl)) (pa_cons (pe_ix ix_list (pv 3) (pe_call GR (hr.mono (by decide)) (by rfl) gR FR.kp bR .nil pass0 (pa_cons (pv 0) (pa_cons (pv 6) pa_nil))) (fun _ _ => rfl)) pa_nil))))))
    (pss_cons (ps_set (i := 5) nd rfl (Or.inl rfl) (pe_call GM (hr.mono (by decide)) (by rfl) gM FM.kp bM .nil pass0 (pa_cons (pv 0) (pa_cons (pe_lc (own := [("_law_tie_here", 7)]) (g := gName 7) (tt := tTest (tOp (rNotInD K) (tVar 7) (tVar 4))) rfl nd (pi_list (pe_call GP (hr.mono (by decide)) (by rfl) gP FP.kp bP .nil pass0 (pa_cons (pe_callB cr_sortedS (by rfl) T.sorted (by decide +kernel) (pa_cons (pv 3) pa_nil)) pa_nil))) (blkOk_by (own := [("_law_tie_here", 7)]) (N := NLw) (sc := defScope sLWeb) (by decide +kernel)) (fun _ _ _ _ _ => (pg_name (i := 7) nd rfl (Or.inl rfl))) (fun _ _ _ _ _ => (pts_one (pt_cmpR (op_notInD (units65 hr)) (pv 7) (pv 4) (by with_unfolding_all rfl)))) (fun _ _ _ _ _ => (pv 7))) pa_nil))))
    (pss_one (ps_ret (pe_call GL (hr.mono (by decide)) (by rfl) gL FL.kp bL .nil pass0 (pa_cons (pe_lstN pa_nil) (pa_cons (pe_op op_cat (pv 4) (pe_slice sl_list (pv 5) po_none (po_some (pe_call GR (hr.mono (by decide)) (by rfl) gR FR.kp bR .nil pass0 (pa_cons (pv 0) (pa_cons (pe_op op_add (pv 2) pe_int) pa_nil)))))) pa_nil)))))))), ?_⟩)
  · obtain ⟨a, m, sp, rfl, _⟩ := h
    rfl
  · obtain ⟨a, m, sp, rfl, hd, m2, m9, s9, k⟩ := h
    walk_at "rd"
    unfold tSl
    walk_at "rd"
    refine ⟨rfl, fun p H1 e1 hp1 hn1 => ?_⟩
    have x1 : DX a H H1 := DX.of e1 hd
    walk_at "rd"
    refine ⟨a, p, names14.map V.str, rfl, x1.at_, wo_of hp1 (fresh_ne hd hn1), by decide, fun M ms H2 pm x2 hM hMn => ?_⟩
    obtain ⟨ns, rfl, pmn⟩ := OwP.perm_unmap V.str pm names14 rfl
    unfold tNoPart tPart
    walk_at "rd"
    refine roll_dx x2.at_ (by omega) (by omega) fun r H3 r0 r1 x3 => ?_
    obtain ⟨rn, rfl⟩ := Int.eq_ofNat_of_zero_le r0
    walk_at "rd"
    refine ⟨_, rfl, ?_⟩
    walk_at "rd"
    have mM := wo_in a _ _ _ (x3.ex _ _ hM)
    have nl : ns.length = 14 := pmn.length_eq
    have ec : cutV (ns.map V.str) none (some (2 + (rn : Int))) = (ns.take (2 + rn)).map V.str := by rw [cut_take _ (by rw [List.length_map]; omega), List.map_take]
    refine ⟨M, _, rfl, SqL.of mM, fun S hS => ?_⟩
    rw [ec]
    have x4 : DX a H (upd H3 S (.lst ((ns.take (2 + rn)).map V.str))) := ((x1.trans x2).trans x3).then (Ex.new hS)
    have s4 : wo a (upd H3 S (.lst ((ns.take (2 + rn)).map V.str))) S = some (.lst ((ns.take (2 + rn)).map V.str)) := wo_of upd_same (fresh_ne x3.at_ hS)
    generalize upd H3 S (.lst ((ns.take (2 + rn)).map V.str)) = H4 at x4 s4 ⊢
    have wl : (ns.take (2 + rn)).length = 2 + rn := by rw [List.length_take]; omega
    have wnd : (ns.take (2 + rn)).Nodup := (pmn.symm.nodup names14_nd).sublist (List.take_sublist _ _)
    have wok : ∀ k ∈ ns.take (2 + rn), nameB k = true := fun k hk => names14_ok k (pmn.mem_iff.mp (List.mem_of_mem_take hk))
    have win : ∀ k ∈ ns.take (2 + rn), k ∈ names14 := fun k hk => pmn.mem_iff.mp (List.mem_of_mem_take hk)
    generalize ns.take (2 + rn) = ws at s4 wl wnd wok win
    clear ec mM nl pmn pm hM
    have w9 : ws.length ≤ 9 := by omega
    have w2 : 2 ≤ ws.length := by omega
    walk_at "rd"
    refine Rd.lcm' ?_
    unfold iRng2
    walk_at "rd"
    have S4 := wo_in a _ _ _ s4
    refine ⟨S, _, rfl, Or.inl (SqL.of S4), ?_⟩
    walk_at "rd"
    rw [List.length_map]
    refine ⟨1, _, rfl, ⟨by omega, by omega, by omega, by omega⟩, fun D hD => ?_⟩
    have Da := fresh_ne x4.at_ hD
    have en : (((ws.length : Nat) : Int) - 1).toNat = ws.length - 1 := by omega
    rw [en]
    refine lc_it (walk_range (lo := 1)) (fun i H' => DX a H4 H' ∧ ∃ zs : TL, H' D = some (.lst (rf zs)) ∧ TA (wo a H') zs ∧ zs.length = i ∧ ∀ j t, zs[j]? = some t → ∃ q b c, q < j + 1 ∧ ws[j + 1]? = some b ∧ ws[q]? = some c ∧ t.2 = norm (b, c)) ⟨(DX.of (Ex.refl _) x4.at_).mut hD Da, [], upd_same, (fun _ h => nomatch h), rfl, fun _ _ h => nomatch h⟩ (fun _ _ _ _ => trivial) (fun i z Ha Hb hi hP hY => ?_) (fun H5 hP => ?_)
    · obtain ⟨x5, zs, hz5, taz, zl, tree⟩ := hP
      obtain ⟨rfl, rfl⟩ := hY
      show _ ∧ _
      refine ⟨rfl, ?_⟩
      unfold tYes
      show (if (true : Bool) = true then _ else _)
      rw [if_pos rfl]
      walk_at "rd"
      obtain ⟨b, hb⟩ : ∃ b, ws[i + 1]? = some b := ⟨_, List.getElem?_eq_getElem (by omega)⟩
      have S5 := wo_in a _ _ _ (x5.ex _ _ s4)
      show rIxL K (.ref S) (.int (1 + (i : Int))) Hb _
      refine Rd.ixl (SqL.of S5) (at_nat (i + 1) (by omega) (by rw [List.getElem?_map, hb]; rfl)) ?_
      walk_at "rd"
      refine roll_dx x5.at_ (by omega) (by omega) fun r H6 r0 r1 x6 => ?_
      obtain ⟨q, rfl⟩ := Int.eq_ofNat_of_zero_le r0
      obtain ⟨c, hc⟩ : ∃ c, ws[q]? = some c := ⟨_, List.getElem?_eq_getElem (by omega)⟩
      have S6 := wo_in a _ _ _ (x6.ex _ _ (x5.ex _ _ s4))
      refine Rd.ixl (SqL.of S6) (at_nat q rfl (by rw [List.getElem?_map, hc]; rfl)) ?_
      walk_at "rd"
      have hz6 := x6.ex _ _ (wo_of hz5 Da)
      refine ⟨b, c, rfl, fun p7 H7 e7 hp7 hn7 => ⟨rf zs, e7 _ _ (wo_in a _ _ _ hz6), sz_lt (by unfold rf; rw [List.length_map]; omega), ((x5.trans x6).then e7).mut hD Da, zs ++ [(p7, norm (b, c))], ?_, fun z hz => ?_, by rw [List.length_append, zl]; rfl, fun j t ht => ?_⟩⟩
      · unfold rf
        rw [List.map_append]
        exact upd_same
      · have ha7 := fresh_ne x6.at_ hn7
        have hDD := e7 _ _ (wo_in a _ _ _ hz6)
        have key : wo a H7 z.1 = some (.tup [V.str z.2.1, V.str z.2.2]) := by
          rcases List.mem_append.mp hz with y | y
          · exact wo_ex e7 _ _ (x6.ex _ _ (taz z y))
          · rw [List.mem_singleton.mp y]
            exact wo_of hp7 ha7
        have ne : z.1 ≠ D := fun e => by
          have y := wo_in a _ _ _ key
          rw [e, hDD] at y
          exact nomatch y
        have na : z.1 ≠ a := fun e => by
          rw [e] at key
          unfold wo at key
          rw [if_pos rfl] at key
          exact nomatch key
        exact wo_of ((upd_ne ne).trans (wo_in a _ _ _ key)) na
      · by_cases cj : j < zs.length
        · rw [List.getElem?_append_left cj] at ht
          exact tree j t ht
        · have jl : j < (zs ++ [(p7, norm (b, c))]).length := (List.getElem?_eq_some_iff.mp ht).1
          rw [List.length_append] at jl
          have je : j = i := by
            have : j < zs.length + 1 := jl
            omega
          subst je
          rw [List.getElem?_append_right (by omega), zl, Nat.sub_self] at ht
          cases ht
          exact ⟨q, b, c, by omega, hb, hc, rfl⟩
    · obtain ⟨x5, zs, hz5, taz, zl, tree⟩ := hP
      walk_at "rd"
      refine Rd.lcm' (Rd.ilist' ?_)
      walk_at "rd"
      have S5 := wo_in a _ _ _ (x5.ex _ _ s4)
      refine ⟨S, ws, rfl, SqL.of S5, by omega, fun ss q pms so hq => ?_⟩
      walk_at "rd"
      have snd : ss.Nodup := pms.symm.nodup wnd
      refine ⟨q, ss, rfl, upd_same, by rw [pms.length_eq]; exact w9, snd, fun P6 H6 fs e6 hf6 taf fl mf hn6 => ?_⟩
      refine ⟨P6, rfl, ⟨_, SqL.of hf6⟩, fun D2 hD2 => ?_⟩
      have x6 : DX a H4 H6 := (x5.then (Ex.new hq)).then e6
      have z6 : wo a H6 D = some (.lst (rf zs)) := wo_ex ((Ex.new hq).trans e6) _ _ (wo_of hz5 Da)
      have taz6 : TA (wo a H6) zs := taz.ex (wo_ex ((Ex.new hq).trans e6))
      have zok : ∀ t ∈ zs.map (·.2), nameB t.1 = true ∧ nameB t.2 = true := fun t ht => by
        obtain ⟨u, hu, rfl⟩ := List.mem_map.mp ht
        obtain ⟨j, hj⟩ := List.getElem?_of_mem hu
        obtain ⟨q', b, c, hq', hb, hc, e⟩ := tree j u hj
        have nbc : b ≠ c := fun e' => by
          have z := (List.getElem?_inj (List.getElem?_eq_some_iff.mp hb).1 wnd).mp (hb.trans (by rw [hc, e']))
          omega
        have m := made_lt (ks := ws) (t := u.2) ⟨b, c, List.mem_of_getElem? hb, List.mem_of_getElem? hc, nbc, e⟩
        exact ⟨wok _ m.1, wok _ m.2.1⟩
      refine lc_it (walk_list (xs := rf fs)) (fun i H' => Ex H6 H' ∧ ∃ gs : TL, H' D2 = some (.lst (rf gs)) ∧ gs.length ≤ i ∧ ∀ t ∈ gs, t ∈ fs) ⟨Ex.new hD2, [], upd_same, Nat.zero_le _, fun _ h => nomatch h⟩ (fun i H' _ hP => SqL.of (hP.1 _ _ hf6)) (fun i z Ha Hb hi hP hY => ?_) (fun H7 hP => ?_)
      · obtain ⟨e7, gs, hg7, gl, gsub⟩ := hP
        obtain ⟨rfl, hz⟩ := hY
        rw [List.getElem?_map] at hz
        cases ht : fs[i]? with
        | none => rw [ht] at hz; exact nomatch hz
        | some t =>
          rw [ht] at hz
          cases hz
          have tm := List.mem_of_getElem? ht
          have mt := made_lt (mf t.2 (List.mem_map.mpr ⟨t, tm, rfl⟩))
          have n1 := wok _ (pms.mem_iff.mp mt.1)
          have n2 := wok _ (pms.mem_iff.mp mt.2.1)
          have i100 : i < 100 := by
            have z : i < (rf fs).length := hi
            unfold rf at z
            rw [List.length_map] at z
            omega
          show _ ∧ _
          refine ⟨rfl, ?_⟩
          walk_at "rd"
          refine ⟨.tuple ([t.2.1, t.2.2].map PyData.str), (zs.map (·.2)).map pairD, .tup (SqT.of (taf.ex e7 t tm)) (dp_strsT [t.2.1, t.2.2]), .lst (SqL.of (e7 _ _ (wo_in a _ _ _ z6))) (dp_pairs (taz6.ex ((wo_in a H6).trans e7))), shaped_tup (fun s hs => ?_), shaped_pairs zok, ?_⟩
          · rcases List.mem_cons.mp hs with e | hs
            · rw [e]; exact n1
            · rw [List.mem_singleton.mp hs]; exact n2
          · generalize (!((zs.map (·.2)).map pairD).any fun z => PyData.eqv z (.tuple ([t.2.1, t.2.2].map PyData.str))) = kb
            refine ⟨kb, rfl, ?_⟩
            cases kb with
            | false =>
              rw [if_neg (by decide)]
              exact ⟨e7, gs, hg7, Nat.le_succ_of_le gl, gsub⟩
            | true =>
              rw [if_pos rfl]
              walk_at "rd"
              refine ⟨_, hg7, sz_lt (by unfold rf; rw [List.length_map]; omega), e7.mut hD2, gs ++ [t], ?_, by rw [List.length_append]; exact Nat.add_le_add_right gl 1, fun u hu => ?_⟩
              · unfold rf
                rw [List.map_append]
                exact upd_same
              · rcases List.mem_append.mp hu with y | y
                · exact gsub u y
                · rw [List.mem_singleton.mp y]
                  exact tm
      · obtain ⟨e7, gs, hg7, gl, gsub⟩ := hP
        walk_at "rd"
        have x7 : DX a H4 H7 := x6.then e7
        have g100 : gs.length ≤ 100 := Nat.le_trans gl (by unfold rf; rw [List.length_map]; exact fl)
        have taf7 := taf.ex e7
        have D2a := fresh_ne x6.at_ hD2
        refine ⟨a, D2, rf gs, rfl, x7.at_, wo_of hg7 D2a, by unfold rf; rw [List.length_map]; omega, fun FM' fr H8 pmf x8 hF8 hFn => ?_⟩
        obtain ⟨hs, rfl, pmh⟩ := OwP.perm_unmap (fun p : Addr × Str × Str => V.ref p.1) pmf gs rfl
        walk_at "rd"
        refine ⟨small64 (n := 0) (by decide), fun L0 hL0 _ => ?_⟩
        walk_at "rd"
        have x9 : DX a H4 (upd H8 L0 (.lst [])) := (x7.trans x8).then (Ex.new hL0)
        have y9 : DX a H6 (upd H8 L0 (.lst [])) := ((DX.of e7 x6.at_).trans x8).then (Ex.new hL0)
        have l9 : wo a (upd H8 L0 (.lst [])) L0 = some (.lst []) := wo_of upd_same (fresh_ne x8.at_ hL0)
        have f9 := wo_ex (Ex.new (o := .lst []) hL0) _ _ hF8
        generalize upd H8 L0 (.lst []) = H9 at x9 y9 l9 f9 ⊢
        refine roll_dx x9.at_ (by omega) (by omega) fun r H10 r0 r1 x10 => ?_
        obtain ⟨rt, rfl⟩ := Int.eq_ofNat_of_zero_le r0
        walk_at "rd"
        refine ⟨_, rfl, ?_⟩
        refine ⟨FM', _, rfl, SqL.of (wo_in a _ _ _ (x10.ex _ _ f9)), fun S2 hS2 => ?_⟩
        have x11 : DX a H4 (upd H10 S2 (.lst (cutV (hs.map fun p => V.ref p.1) none (some (rt : Int))))) := (x9.trans x10).then (Ex.new hS2)
        have y11 : DX a H6 (upd H10 S2 (.lst (cutV (hs.map fun p => V.ref p.1) none (some (rt : Int))))) := (y9.trans x10).then (Ex.new hS2)
        have s11 : (upd H10 S2 (.lst (cutV (hs.map fun p => V.ref p.1) none (some (rt : Int))))) S2 = some (.lst (rf (hs.take rt))) := by
          rw [upd_same, cut_upto, ← List.map_take]
        have l11 := wo_ex (Ex.new (o := .lst (cutV (hs.map fun p => V.ref p.1) none (some (rt : Int)))) hS2) _ _ (x10.ex _ _ l9)
        generalize upd H10 S2 (.lst (cutV (hs.map fun p => V.ref p.1) none (some (rt : Int)))) = H11 at x11 y11 s11 l11 ⊢
        have z11 := wo_in a _ _ _ (y11.ex _ _ z6)
        have tl : (hs.take rt).length ≤ 9 := by rw [List.length_take]; omega
        refine ⟨D, S2, rf zs, rf (hs.take rt), rfl, rfl, z11, s11, small64 (n := _) (by unfold rf; rw [List.length_map, List.length_map]; omega), fun C hC => ?_⟩
        have x12 : DX a H4 (upd H11 C (.lst (rf zs ++ rf (hs.take rt)))) := x11.then (Ex.new hC)
        have y12 : DX a H6 (upd H11 C (.lst (rf zs ++ rf (hs.take rt)))) := y11.then (Ex.new hC)
        have c12 : (upd H11 C (.lst (rf zs ++ rf (hs.take rt)))) C = some (.lst (rf (zs ++ hs.take rt))) := by
          rw [upd_same]
          unfold rf
          rw [List.map_append]
        have l12 := wo_in a _ _ _ (wo_ex (Ex.new (o := .lst (rf zs ++ rf (hs.take rt))) hC) _ _ l11)
        generalize upd H11 C (.lst (rf zs ++ rf (hs.take rt))) = H12 at x12 y12 c12 l12 ⊢
        walk_at "rd"
        have taf6 : TA (wo a H6) fs := fun t ht => wo_of (taf t ht) fun e => by
          obtain ⟨l, s', n, _, q⟩ := x6.at_
          have z := taf t ht
          rw [e, q] at z
          cases z
        have hsf : ∀ t ∈ hs.take rt, t ∈ fs := fun t ht => gsub t (pmh.mem_iff.mp (List.mem_of_mem_take ht))
        have ta12 : TA H12 (zs ++ hs.take rt) := fun t ht => by
          rcases List.mem_append.mp ht with y | y
          · exact wo_in a _ _ _ (y12.ex _ _ (taz6 t y))
          · exact wo_in a _ _ _ (y12.ex _ _ (taf6 t (hsf t y)))
        have len : (zs ++ hs.take rt).length ≤ 18 := by rw [List.length_append]; omega
        refine ⟨L0, C, zs ++ hs.take rt, rfl, l12, c12, ta12, by omega, fun d H13 ks zz e13 pl asc km tasc tmm hdn => ?_⟩
        have TT : Tree ws ((zs ++ hs.take rt).map (·.2)) := fun i' a' h1 ha' => by
          have il := (List.getElem?_eq_some_iff.mp ha').1
          obtain ⟨t, ht⟩ : ∃ t, zs[i' - 1]? = some t := ⟨_, List.getElem?_eq_getElem (by omega)⟩
          obtain ⟨q', b, c, hq', hb, hc, e⟩ := tree (i' - 1) t ht
          have ei : i' - 1 + 1 = i' := by omega
          rw [ei] at hb hq'
          rw [ha'] at hb
          cases hb
          exact ⟨q', c, hq', hc, by rw [← e]; exact List.mem_map.mpr ⟨t, List.mem_append_left _ (List.mem_of_getElem? ht), rfl⟩⟩
        have MM : ∀ t ∈ (zs ++ hs.take rt).map (·.2), Made ws t := fun t ht => by
          obtain ⟨u, hu, rfl⟩ := List.mem_map.mp ht
          rcases List.mem_append.mp hu with y | y
          · obtain ⟨j, hj⟩ := List.getElem?_of_mem y
            obtain ⟨q', b, c, hq', hb, hc, e⟩ := tree j u hj
            exact ⟨b, c, List.mem_of_getElem? hb, List.mem_of_getElem? hc, fun e' => by
              have z := (List.getElem?_inj (List.getElem?_eq_some_iff.mp hb).1 wnd).mp (hb.trans (by rw [hc, e']))
              omega, e⟩
          · obtain ⟨b, c, hb, hc, n, e⟩ := mf u.2 (List.mem_map.mpr ⟨u, hsf u y, rfl⟩)
            exact ⟨b, c, pms.mem_iff.mp hb, pms.mem_iff.mp hc, n, e⟩
        obtain ⟨W, Wk⟩ := web_of wnd w2 w9 wok TT MM (by rw [List.length_map]; exact len) asc km tasc tmm
        refine k d H13 ks zz (x4.trans (x12.then e13)) (plain_wo (x12.then e13).at_ pl) W (fun k hk => win k ((Wk k).mp hk)) (dx_none (x4.trans x12) hdn)
end
end OwW


namespace OwW
open PySem PyProof.Rows L2 L2H OwX Rd Evl
abbrev sMade : Stmt := top 50
def spMade (C : Addr) : Sp := fun vs H Q _ => ∃ (d : Addr) (ks : List Str) (zs : TL), vs = [.ref d] ∧ PlainAt H d ks zs ∧ WebOk ks (zs.map (·.2)) ∧ ∀ a H', Ex H H' → IsWeb C H' a ks zs → H a = none → Q (.ref a) H'
section
variable {P : Program} {w : World} {K : PySem.W.Frag} {mg : Str → Option Value} {base : Heap}
theorem scMade : FnScope ["_law_plain_here"] ["_law_plain_here"] (defScope sMade) := ⟨rfl, rfl, rfl, by decide +kernel, rfl, by decide +kernel, by decide +kernel⟩
theorem ok_made {f g C : Addr} {fd gd : FuncData} (F : Fun K "_law_made" "_law_made" sMade f fd) (FI : Fun K "__init__" "Web.__init__" sInit g gd) (M : Mk K C g) (gW : mg "Web" = some (.ref C)) (GI : FnOk P w K mg base CX0 6 g gd ["self", "places", "ties"] (spInit C)) (T : BltM mg) : FnOk P w K mg base CX0 8 f fd ["_law_plain_here"] (spMade C) := by
  have nd := scMade.nd
  have bI : Binds K gd ["self", "places", "ties"] [] := FI.binds fun _ _ _ _ _ _ us hl => match us, hl with | [_, _, _], _ => rfl
  refine F.ok scMade (fun vs H Q E h => ?_) (fun cdv A outer s H vs Q E hr h => ⟨_, (pss_one (ps_ret (pe_make M GI (hr.mono (by decide)) (by rfl) gW bI .nil pass0 (pa_cons (pe_callTy call_tuple_of (by rfl) T.tuple (by decide +kernel) (pa_cons (pe_dget (units1 hr) (pv 0) pe_str (fun _ _ => rfl)) pa_nil)) (pa_cons (pe_callTy call_tuple_of (by rfl) T.tuple (by decide +kernel) (pa_cons (pe_dget (units1 hr) (pv 0) pe_str (fun _ _ => rfl)) pa_nil)) pa_nil))))), ?_⟩)
  · obtain ⟨d, ks, zs, rfl, _⟩ := h
    rfl
  · obtain ⟨d, ks, zs, rfl, pl, ok, k⟩ := h
    walk_at "rd"
    obtain ⟨⟨kp, tp, h1, h2, h3⟩, ta⟩ := pl
    unfold tMake
    walk_at "rd"
    have g1 : ∀ H', Ex H H' → DGet H' d (.str "places") (some (.ref kp)) := fun H' e => by
      have z := DGet.k (k := Sum.inr "places") (e _ _ h1)
      rw [valV_pos rfl] at z
      exact z
    have g2 : ∀ H', Ex H H' → DGet H' d (.str "ties") (some (.ref tp)) := fun H' e => by
      have z := DGet.k (k := Sum.inr "ties") (e _ _ h1)
      have ne : ¬ (Sum.inr ("places" : Str) : Key) = (Sum.inr ("ties" : Str) : Key) := by decide +kernel
      rw [valV_neg ne, valV_pos rfl] at z
      exact z
    unfold tDGet
    walk_at "rd"
    refine ⟨d, _, rfl, g1 H (Ex.refl H), ?_⟩
    walk_at "rd"
    refine ⟨kp, _, rfl, Or.inl ⟨SqL.of h2, fun p hp => ?_⟩⟩
    have e1 : Ex H (upd H p (.tup (ks.map V.str))) := Ex.new hp
    have p1 : (upd H p (.tup (ks.map V.str))) p = some (.tup (ks.map V.str)) := upd_same
    generalize upd H p (.tup (ks.map V.str)) = H1 at e1 p1 ⊢
    walk_at "rd"
    refine ⟨d, _, rfl, g2 H1 e1, ?_⟩
    walk_at "rd"
    refine ⟨tp, _, rfl, Or.inl ⟨SqL.of (e1 _ _ h3), fun q hq => ?_⟩⟩
    have e2 : Ex H1 (upd H1 q (.tup (rf zs))) := Ex.new hq
    have q2 : (upd H1 q (.tup (rf zs))) q = some (.tup (rf zs)) := upd_same
    generalize upd H1 q (.tup (rf zs)) = H2 at e2 q2 ⊢
    walk_at "rd"
    refine fun x dx hx hdx nx => ?_
    have e3 : Ex H2 (upd (upd H2 dx (.own x)) x (.ins C dx [])) := ((Ex.refl H2).mut hdx).mut hx
    refine ⟨x, p, q, dx, ks, zs, H2, rfl, hx, e3, upd_same, ⟨e2 _ _ p1, q2, ta.ex (e1.trans e2)⟩, ok, fun H' e4 wb => ⟨rfl, ?_⟩⟩
    have hn : H x = none := by
      cases c : H x with
      | none => rfl
      | some o =>
        have z := (e1.trans e2) _ _ c
        rw [hx] at z
        exact nomatch z
    exact k x H' ((e1.trans e2).trans e4) wb hn
end
end OwW


namespace OwW
open PySem PyProof.Rows L2 L2H OwX Rd Evl
abbrev sWPlaces : Stmt := mth 20 3
abbrev sWTies : Stmt := mth 20 4
abbrev sWNear : Stmt := mth 20 8
abbrev sNeedP : Stmt := top 22
abbrev sNeedW : Stmt := top 21
/-- what isinstance asks of a class -/
structure InsTy (K : PySem.W.Frag) (C : Addr) : Prop where
  cl : Cls K C
  ha : PySem.W.findIn K (.ref C) "__class__" = some (some (.builtin "object.__class__"))
  hn : PySem.W.specialIn K (.builtin "object.__class__") "__get__" = some (some (.builtin "getset_descriptor.__get__"))
  htk : PySem.W.takesIn K (.builtin "object.__class__") = some true
  hm : PySem.W.mroIn K C (.type "object") = some true
theorem InsTy.ty {K : PySem.W.Frag} {C a dx : Addr} {H : Hp} {fs : List (Str × V)} (I : InsTy K C) (h : H a = some (.ins C dx fs)) : TyOf K H (.ref a) (.ref C) := .ins h I.cl I.ha I.hn I.htk I.hm
def spWPlaces (C : Addr) : Sp := fun vs H Q _ => ∃ (a : Addr) (ks : List Str) (ys : TL), vs = [.ref a] ∧ IsWeb C H a ks ys ∧ ∀ p, H p = some (.tup (ks.map V.str)) → Q (.ref p) H
abbrev sWEq : Stmt := mth 20 21
def spWEq (C : Addr) : Sp := fun vs H Q _ => ∃ (a b : Addr) (ks ls : List Str) (ys zs : TL), vs = [.ref a, .ref b] ∧ IsWeb C H a ks ys ∧ IsWeb C H b ls zs ∧ Q (.bl (decide (ks = ls) && decide (ys.map (·.2) = zs.map (·.2)))) H
theorem beq_dec (a b : Str) : (a == b) = decide (a = b) := by
  by_cases c : a = b <;> simp [c]
theorem eqvAll_strs : ∀ l m : List Str, PyData.eqvAll (l.map PyData.str) (m.map PyData.str) = decide (l = m)
  | [], [] => by simp [PyData.eqvAll]
  | [], _ :: _ => by simp [PyData.eqvAll]
  | _ :: _, [] => by simp [PyData.eqvAll]
  | a :: l, b :: m => by
    have z := eqvAll_strs l m
    simp [PyData.eqvAll, PyData.eqv, z, beq_dec]
theorem eqvAll_pairs : ∀ l m : List (Str × Str), PyData.eqvAll (l.map pairD) (m.map pairD) = decide (l = m)
  | [], [] => by simp [PyData.eqvAll]
  | [], _ :: _ => by simp [PyData.eqvAll]
  | _ :: _, [] => by simp [PyData.eqvAll]
  | (a, c) :: l, (b, d) :: m => by
    have z := eqvAll_pairs l m
    simp [PyData.eqvAll, PyData.eqv, pairD, z, beq_dec, Bool.and_assoc]
theorem shaped_pairsT {ts : List (Str × Str)} (h : ∀ t ∈ ts, nameB t.1 = true ∧ nameB t.2 = true) : SeqAt.shaped (.tuple (ts.map pairD)) = true := by
  obtain ⟨a, b⟩ := lay_pairs h
  simp [SeqAt.shaped, PyData.canLay0, PyData.depth, a]
  omega
def spWTies (C : Addr) : Sp := fun vs H Q _ => ∃ (a : Addr) (ks : List Str) (ys : TL), vs = [.ref a] ∧ IsWeb C H a ks ys ∧ ∀ p, H p = some (.tup (rf ys)) → TA H ys → Q (.ref p) H
/-- need_place where the place is one -/
def spNeedP (C : Addr) : Sp := fun vs H Q _ => ∃ (a : Addr) (ks : List Str) (ys : TL) (x : Str), vs = [.ref a, .str x] ∧ IsWeb C H a ks ys ∧ x ∈ ks ∧ Q .non H
/-- neighbours of a place -/
def spWNear (C : Addr) : Sp := fun vs H Q _ => ∃ (a : Addr) (ks : List Str) (ys : TL) (x : Str), vs = [.ref a, .str x] ∧ IsWeb C H a ks ys ∧ x ∈ ks ∧ ∀ (p : Addr) (es : List Str), H p = some (.tup (es.map V.str)) → es.Perm (endsL (ys.map (·.2)) x) → sortedS es = true → Q (.ref p) H
/-- need_web where it is one -/
def spNeedW (C : Addr) : Sp := fun vs H Q _ => ∃ (a : Addr) (ks : List Str) (ys : TL), vs = [.ref a] ∧ IsWeb C H a ks ys ∧ Q .non H
section
variable {P : Program} {w : World} {K : PySem.W.Frag} {mg : Str → Option Value} {base : Heap}
theorem scWPlaces : FnScope ["self"] ["self"] (defScope sWPlaces) := ⟨rfl, rfl, rfl, by decide +kernel, rfl, by decide +kernel, by decide +kernel⟩
theorem ok_wplaces {f C : Addr} {fd : FuncData} (F : Fun K "places" "Web.places" sWPlaces f fd) (WK : WebK K C) : FnOk P w K mg base CX0 1 f fd ["self"] (spWPlaces C) := by
  have nd := scWPlaces.nd
  refine F.ok scWPlaces (fun vs H Q E h => ?_) (fun cdv A outer s H vs Q E hr h => ⟨_, (pss_one (ps_ret (pe_fld (pv 0) rfl))), ?_⟩)
  · obtain ⟨a, ks, ys, rfl, _⟩ := h
    rfl
  · obtain ⟨a, ks, ys, rfl, wb, k⟩ := h
    obtain ⟨dx, p, q, n, nl, h1, wa, h3, h4, h5⟩ := wb.at_
    walk_at "rd"
    exact ⟨_, rfl, a, C, dx, _, .ref p, rfl, h1, WK.cls, WK.np, rfl, k p wa.ps⟩
theorem scWTies : FnScope ["self"] ["self"] (defScope sWTies) := ⟨rfl, rfl, rfl, by decide +kernel, rfl, by decide +kernel, by decide +kernel⟩
theorem ok_wties {f C : Addr} {fd : FuncData} (F : Fun K "ties" "Web.ties" sWTies f fd) (WK : WebK K C) : FnOk P w K mg base CX0 1 f fd ["self"] (spWTies C) := by
  have nd := scWTies.nd
  refine F.ok scWTies (fun vs H Q E h => ?_) (fun cdv A outer s H vs Q E hr h => ⟨_, (pss_one (ps_ret (pe_fld (pv 0) rfl))), ?_⟩)
  · obtain ⟨a, ks, ys, rfl, _⟩ := h
    rfl
  · obtain ⟨a, ks, ys, rfl, wb, k⟩ := h
    obtain ⟨dx, p, q, n, nl, h1, wa, h3, h4, h5⟩ := wb.at_
    walk_at "rd"
    exact ⟨_, rfl, a, C, dx, _, .ref q, rfl, h1, WK.cls, WK.nt, rfl, k q wa.ts wa.ta⟩
theorem scNeedP : FnScope ["web", "place"] ["web", "place"] (defScope sNeedP) := ⟨rfl, rfl, rfl, by decide +kernel, rfl, by decide +kernel, by decide +kernel⟩
theorem ok_needp {f g C pp : Addr} {fd gd : FuncData} (F : Fun K "need_place" "need_place" sNeedP f fd) (FP : Fun K "places" "Web.places" sWPlaces g gd) (PP : PropOf K C "places" pp g) (GP : FnOk P w K mg base CX0 1 g gd ["self"] (spWPlaces C)) (WK : WebK K C) : FnOk P w K mg base CX0 3 f fd ["web", "place"] (spNeedP C) := by
  have nd := scNeedP.nd
  have bP : Binds K gd ["self"] [] := FP.binds fun _ _ _ _ _ _ us hl => match us, hl with | [_], _ => rfl
  refine F.ok scNeedP (fun vs H Q E h => ?_) (fun cdv A outer s H vs Q E hr h => ⟨_, (pss_one (ps_if (pt_cmpR op_notIn_seq (pv 1) (pe_prop (pv 0) WK.cls PP GP (hr.mono (by decide)) bP .nil pass0 rfl) (by with_unfolding_all rfl)) pss_dead pss_nil)), ?_⟩)
  · obtain ⟨a, ks, ys, x, rfl, _⟩ := h
    rfl
  · obtain ⟨a, ks, ys, x, rfl, wb, hx, k⟩ := h
    walk_at "rd"
    obtain ⟨dx, p, q, n, nl, h1, wa, h3, h4, h5⟩ := wb.at_
    unfold tProp
    walk_at "rd"
    refine ⟨a, dx, _, rfl, h1, a, ks, ys, rfl, wb, fun p hp => ?_⟩
    refine ⟨p, _, rfl, Or.inr (SqT.of hp), rfl, flat_strs ks, ?_⟩
    have z : (if true = true then !inV (.str x) (ks.map V.str) else inV (.str x) (ks.map V.str)) = false := by
      rw [if_pos rfl, in_strs hx]
      rfl
    rw [z]
    exact ⟨false, rfl, k⟩
theorem scWNear : FnScope ["self", "place"] ["self", "place"] (defScope sWNear) := ⟨rfl, rfl, rfl, by decide +kernel, rfl, by decide +kernel, by decide +kernel⟩
theorem ent_some : ∀ {nl : List (Str × Addr × List Str)} {k : Str}, k ∈ nl.map (·.1) → ∃ t ∈ nl, t.1 = k ∧ valV (nl.map ent) (Sum.inr k) = some (.ref t.2.1)
  | [], _, h => nomatch h
  | t :: nl, k, h => by
    by_cases c : t.1 = k
    · refine ⟨t, List.mem_cons_self, c, ?_⟩
      rw [List.map_cons, valV_pos (by unfold ent; rw [c])]
      rfl
    · rw [List.map_cons] at h
      rcases List.mem_cons.mp h with e | h
      · exact absurd e.symm c
      · obtain ⟨u, hu, e, z⟩ := ent_some h
        refine ⟨u, List.mem_cons_of_mem _ hu, e, ?_⟩
        rw [List.map_cons, valV_neg (fun e' => c (Sum.inr.inj e'))]
        exact z
theorem ok_wnear {f g C : Addr} {fd gd : FuncData} (F : Fun K "neighbours" "Web.neighbours" sWNear f fd) (FN : Fun K "need_place" "need_place" sNeedP g gd) (gN : mg "need_place" = some (.ref g)) (GN : FnOk P w K mg base CX0 3 g gd ["web", "place"] (spNeedP C)) (WK : WebK K C) : FnOk P w K mg base CX0 4 f fd ["self", "place"] (spWNear C) := by
  have nd := scWNear.nd
  have bN : Binds K gd ["web", "place"] [] := FN.binds fun _ _ _ _ _ _ us hl => match us, hl with | [_, _], _ => rfl
  refine F.ok scWNear (fun vs H Q E h => ?_) (fun cdv A outer s H vs Q E hr h => ⟨_, (pss_cons (ps_expr (pe_call GN (hr.mono (by decide)) (by rfl) gN FN.kp bN .nil pass0 (pa_cons (pv 0) (pa_cons (pv 1) pa_nil))))
    (pss_one (ps_ret (pe_dget (units1 hr) (pe_fld (pv 0) rfl) (pv 1) (fun _ _ => rfl))))), ?_⟩)
  · obtain ⟨a, ks, ys, x, rfl, _⟩ := h
    rfl
  · obtain ⟨a, ks, ys, x, rfl, wb, hx, k⟩ := h
    walk_at "rd"
    obtain ⟨dx, p, q, n, nl, h1, wa, h3, h4, h5⟩ := wb.at_
    refine ⟨a, ks, ys, x, rfl, wb, hx, ?_⟩
    walk_at "rd"
    obtain ⟨t, ht, e, z⟩ := ent_some (nl := nl) (k := x) (by rw [h4]; exact hx)
    have dg := DGet.k (k := Sum.inr x) h3
    rw [z] at dg
    have nk := h5 t ht
    unfold tDGet tFld
    walk_at "rd"
    exact ⟨a, C, dx, _, .ref n, rfl, h1, WK.cls, WK.nn, rfl, _, rfl, n, _, rfl, dg, k t.2.1 t.2.2 nk.at_ (by rw [← e]; exact nk.pm) nk.so⟩
theorem scNeedW : FnScope ["web"] ["web"] (defScope sNeedW) := ⟨rfl, rfl, rfl, by decide +kernel, rfl, by decide +kernel, by decide +kernel⟩
theorem ok_needw {f C : Addr} {fd : FuncData} (F : Fun K "need_web" "need_web" sNeedW f fd) (gW : mg "Web" = some (.ref C)) (kC : PySem.W.kitOne K (.ref C) (.ref C) = some true) (WT : InsTy K C) (T : BltB mg) : FnOk P w K mg base CX0 1 f fd ["web"] (spNeedW C) := by
  have nd := scNeedW.nd
  refine F.ok scNeedW (fun vs H Q E h => ?_) (fun cdv A outer s H vs Q E hr h => ⟨_, (pss_one (ps_if (pt_not (pt_val (pe_callB call_isi (by rfl) T.isinst (by decide +kernel) (pa_cons (pv 0) (pa_cons (pe_glob (v := .ref C) (by rfl) gW rfl) pa_nil))) (fun _ => rfl))) pss_dead pss_nil)), ?_⟩)
  · obtain ⟨a, ks, ys, rfl, _⟩ := h
    rfl
  · obtain ⟨a, ks, ys, rfl, wb, k⟩ := h
    obtain ⟨dx, p, q, n, nl, h1, wa, h3, h4, h5⟩ := wb.at_
    have tW : TyOf K H (.ref a) (.ref C) := WT.ty h1
    walk_at "rd"
    refine ⟨.ref a, .ref C, .ref C, .ref C, true, rfl, .own C, .base tW, kC, true, rfl, ?_⟩
    exact k
theorem scWEq : FnScope ["self", "other"] ["self", "other"] (defScope sWEq) := ⟨rfl, rfl, rfl, by decide +kernel, rfl, by decide +kernel, by decide +kernel⟩
theorem ok_weq {f C : Addr} {fd : FuncData} (F : Fun K "__eq__" "Web.__eq__" sWEq f fd) (gW : mg "Web" = some (.ref C)) (kC : PySem.W.kitOne K (.ref C) (.ref C) = some true) (WT : InsTy K C) (WK : WebK K C) (T : BltB mg) : FnOk P w K mg base CX0 1 f fd ["self", "other"] (spWEq C) := by
  have nd := scWEq.nd
  refine F.ok scWEq (fun vs H Q E h => ?_) (fun cdv A outer s H vs Q E hr h => ⟨_, (pss_one (ps_ret (pe_and (pe_callB call_isi (by rfl) T.isinst (by decide +kernel) (pa_cons (pv 1) (pa_cons (pe_glob (v := .ref C) (by rfl) gW rfl) pa_nil))) (pe_and (pe_cmpR (op_eqD hr.units) (pe_fld (pv 0) rfl) (pe_fld (pv 1) rfl) (nomark _)) (pe_one (pe_cmpR (op_eqD hr.units) (pe_fld (pv 0) rfl) (pe_fld (pv 1) rfl) (nomark _))))))), ?_⟩)
  · obtain ⟨a, b, ks, ls, ys, zs, rfl, _⟩ := h
    rfl
  · obtain ⟨a, b, ks, ls, ys, zs, rfl, wa, wb, k⟩ := h
    obtain ⟨dx, p, q, n, nl, h1, w1, _⟩ := wa.at_
    obtain ⟨dy, p', q', n', nl', h2, w2, _⟩ := wb.at_
    have tW : TyOf K H (.ref b) (.ref C) := WT.ty h2
    walk_at "rd"
    refine Rd.andv ?_
    walk_at "rd"
    refine ⟨.ref b, .ref C, .ref C, .ref C, true, rfl, .own C, .base tW, kC, true, rfl, ?_⟩
    refine Rd.iteT rfl (Rd.andv ?_)
    unfold tOp tFld
    walk_at "rd"
    refine ⟨a, C, dx, _, .ref p, rfl, h1, WK.cls, WK.np, rfl, ?_⟩
    walk_at "rd"
    refine ⟨b, C, dy, _, .ref p', rfl, h2, WK.cls, WK.np, rfl, ?_⟩
    refine ⟨.tuple (ks.map PyData.str), .tuple (ls.map PyData.str), .tup (SqT.of w1.ps) (dp_strsT ks), .tup (SqT.of w2.ps) (dp_strsT ls), shaped_tup wa.ok.names, shaped_tup wb.ok.names, ?_⟩
    have e1 : PyData.eqv (.tuple (ks.map PyData.str)) (.tuple (ls.map PyData.str)) = decide (ks = ls) := by simp [PyData.eqv, eqvAll_strs]
    have e2 : PyData.eqv (.tuple ((ys.map (·.2)).map pairD)) (.tuple ((zs.map (·.2)).map pairD)) = decide (ys.map (·.2) = zs.map (·.2)) := by simp only [PyData.eqv, eqvAll_pairs]
    rw [e1]
    refine ⟨_, rfl, ?_⟩
    by_cases c : ks = ls
    · rw [decide_eq_true c, Bool.true_and] at k
      rw [decide_eq_true c]
      refine Rd.iteT rfl ?_
      walk_at "rd"
      refine ⟨a, C, dx, _, .ref q, rfl, h1, WK.cls, WK.nt, rfl, ?_⟩
      walk_at "rd"
      refine ⟨b, C, dy, _, .ref q', rfl, h2, WK.cls, WK.nt, rfl, ?_⟩
      have n1 : ∀ t ∈ ys.map (·.2), nameB t.1 = true ∧ nameB t.2 = true := fun t ht => ⟨wa.ok.names _ (wa.ok.ends t ht).1, wa.ok.names _ (wa.ok.ends t ht).2.1⟩
      have n2 : ∀ t ∈ zs.map (·.2), nameB t.1 = true ∧ nameB t.2 = true := fun t ht => ⟨wb.ok.names _ (wb.ok.ends t ht).1, wb.ok.names _ (wb.ok.ends t ht).2.1⟩
      refine ⟨.tuple ((ys.map (·.2)).map pairD), .tuple ((zs.map (·.2)).map pairD), .tup (SqT.of w1.ts) (dp_pairs w1.ta), .tup (SqT.of w2.ts) (dp_pairs w2.ta), shaped_pairsT n1, shaped_pairsT n2, ?_⟩
      rw [e2]
      exact k
    · rw [decide_eq_false c, Bool.false_and] at k
      rw [decide_eq_false c]
      refine Rd.iteF (by decide) ?_
      exact k
end
end OwW


namespace OwW
open PySem PyProof.Rows L2 L2H OwX Rd Evl
abbrev sJustT : Stmt := top 15
abbrev NJt : List Str := ["value", "keys", "key"]
/-- has_just_keys(value, a tuple of texts): no dict, or a dict with text and integer keys -/
def spJustT (K : PySem.W.Frag) : Sp := fun vs H Q _ => ∃ (vv : V) (kl : Addr) (ys : List Str), vs = [vv, .ref kl] ∧ H kl = some (.tup (ys.map V.str)) ∧ ys.length ≤ 1000 ∧
  ((∃ t : Value, TyX K H vv t ∧ PySem.W.kitOne K t (.type "dict") = some false ∧ ∀ H', Ex H H' → Q (.bl false) H') ∨
  ∃ (a : Addr) (kvs : List (Key × V)), vv = .ref a ∧ H a = some (.dK kvs) ∧ ∀ H', Ex H H' → Q (.bl (justB ys kvs)) H')
section
variable {P : Program} {w : World} {K : PySem.W.Frag} {mg : Str → Option Value} {base : Heap}
theorem scJustT : FnScope NJt ["value", "keys"] (defScope sJustT) := ⟨rfl, rfl, rfl, by decide +kernel, rfl, by decide +kernel, by decide +kernel⟩
theorem ok_justT {f : Addr} {fd : FuncData} (F : Fun K "has_just_keys" "has_just_keys" sJustT f fd) (T : BltW mg) : FnOk P w K mg base CX0 1 f fd ["value", "keys"] (spJustT K) := by
  have nd := scJustT.nd
  refine F.ok scJustT (fun vs H Q E h => ?_) (fun cdv A outer s H vs Q E hr h => ⟨_, (pss_one (ps_ret (pe_and (pe_callB call_isi (by rfl) T.isinst (by decide +kernel) (pa_cons (pv 0) (pa_cons (pe_bltn (v := .ty "dict") (by rfl) T.dict (by decide +kernel) rfl) pa_nil))) (pe_and (pe_cmpR op_eq (pe_callB call_lenD (by rfl) T.len (by decide +kernel) (pa_cons (pv 0) pa_nil)) (pe_callB call_len_seq (by rfl) T.len (by decide +kernel) (pa_cons (pv 1) pa_nil)) (nomark _)) (pe_one (pe_callB (cr_all rfl) (by rfl) T.all (by decide +kernel) (pa_cons (pe_lc (own := [("key", 2)]) (g := gName 2) (tt := tYes) rfl nd (pi_tup (pv 1)) (blkOk_by (own := [("key", 2)]) (N := NJt) (sc := defScope sJustT) (by decide +kernel)) (fun _ _ _ _ _ => (pg_name (i := 2) nd rfl (Or.inl rfl))) (fun _ _ _ _ _ => pts_nil) (fun _ _ _ _ _ => (pe_cmp (pc_din (units1 hr) (pv 2) (pv 0))))) pa_nil))))))), ?_⟩)
  · obtain ⟨vv, kl, ys, rfl, _⟩ := h
    rfl
  · obtain ⟨vv, kl, ys, rfl, hk, hz, h⟩ := h
    walk_at "rd"
    refine Rd.andv ?_
    walk_at "rd"
    rcases h with ⟨t, ht, kt, k⟩ | ⟨a, kvs, rfl, ha, k⟩
    · refine ⟨vv, .ty "dict", t, .type "dict", false, rfl, .ty "dict", ht, kt, false, rfl, ?_⟩
      refine Rd.iteF (by decide) ?_
      exact k H (Ex.refl H)
    · refine ⟨.ref a, .ty "dict", .type "dict", .type "dict", true, rfl, .ty "dict", .base (.dK ha), kit_ty (by decide +kernel), true, rfl, ?_⟩
      refine Rd.iteT rfl (Rd.andv ?_)
      walk_at "rd"
      refine ⟨a, kvs, rfl, ha, ?_⟩
      walk_at "rd"
      refine ⟨kl, _, rfl, Or.inr (SqT.of hk), ?_⟩
      refine Rd.eq rfl ⟨_, rfl, ?_⟩
      have lenE : decide (V.int (kvs.length : Int) = V.int ((ys.map V.str).length : Int)) = decide (kvs.length = ys.length) := by
        rw [List.length_map]
        exact decide_eq_decide.mpr ⟨fun y => by injection y with y; omega, fun y => by rw [y]⟩
      rw [lenE]
      cases c1 : decide (kvs.length = ys.length) with
      | false =>
        have z := k H (Ex.refl H)
        unfold justB at z
        rw [c1, Bool.false_and] at z
        exact z
      | true =>
        refine Rd.iteT rfl ?_
        walk_at "rd"
        refine Rd.lcm' ?_
        refine ⟨_, rfl, kl, rfl, ⟨_, SqT.of hk⟩, fun D hD => ?_⟩
        refine Rd.lc_mapV (walk_tup (xs := ys.map V.str)) (fun i => V.bl ((valV kvs (Sum.inr (ys.getD i Str.empty) : Key)).isSome)) hD (by rw [List.length_map]; omega) (fun H' e => ex_t e (SqT.of hk)) (fun _ => rfl) (fun i y Ha Hb R hi ea y1 hR => ?_) (fun H3 e3 h3 => ?_)
        · obtain ⟨rfl, y2⟩ := y1
          rw [List.getElem?_map] at y2
          obtain ⟨z, hz2, rfl⟩ := Option.map_eq_some_iff.mp y2
          have ez : ys.getD i Str.empty = z := by rw [List.getD_eq_getElem?_getD, hz2]; rfl
          rw [ez] at hR
          show tVar 2 _ _ _
          refine Rd.var rfl ?_
          refine Rd.var rfl ?_
          exact ⟨a, _, rfl, DGet.k (k := (Sum.inr z : Key)) (ea _ _ ha), hR _ (Ex.refl _)⟩
        · walk_at "rd"
          rw [bls] at h3
          refine ⟨_, _, rfl, SqL.of h3, ?_⟩
          have ea : (((List.range (ys.map V.str).length).map fun i => (valV kvs (Sum.inr (ys.getD i Str.empty) : Key)).isSome)).all id = ys.all (fun n => (valV kvs (Sum.inr n : Key)).isSome) := by
            rw [List.length_map, range_get (fun n => (valV kvs (Sum.inr n : Key)).isSome) Str.empty ys, List.all_map]
            rfl
          have z := k H3 e3
          unfold justB at z
          rw [c1, Bool.true_and] at z
          rw [ea]
          exact z
end
end OwW


namespace OwW
open PySem PyProof.Rows L2 L2H OwX Rd Evl
abbrev sNumbers : Stmt := top 39
abbrev NNu : List Str := ["web", "value", "number"]
/-- are these numbers for just the places: no dict, or a dict of data -/
theorem dhAll_len {H : Hp} : ∀ {xs : List V} {ds : List PyData}, DhAll H xs ds → xs.length = ds.length
  | _, _, .nil => rfl
  | _, _, .cons _ r => by
    have z := dhAll_len r
    show _ + 1 = _ + 1
    rw [z]
def spNumbers (K : PySem.W.Frag) (C : Addr) : Sp := fun vs H Q _ => ∃ (wb : Addr) (vv : V) (ks : List Str) (ys : TL), vs = [.ref wb, vv] ∧ IsWeb C H wb ks ys ∧
  ((∃ t : Value, TyX K H vv t ∧ PySem.W.kitOne K t (.type "dict") = some false ∧ ∀ H', Ex H H' → Q (.bl false) H') ∨
  ∃ (a : Addr) (kvs : List (Key × V)) (ds : List PyData), vv = .ref a ∧ H a = some (.dK kvs) ∧ kvs.length ≤ 1000 ∧ DhAll (wo a H) (kvs.map (·.2)) ds ∧ ∀ H', Ex H H' → Q (.bl (justB ks kvs && ds.all integerD)) H')
section
variable {P : Program} {w : World} {K : PySem.W.Frag} {mg : Str → Option Value} {base : Heap}
theorem scNumbers : FnScope NNu ["web", "value"] (defScope sNumbers) := ⟨rfl, rfl, rfl, by decide +kernel, rfl, by decide +kernel, by decide +kernel⟩
theorem ok_numbers {f g gp gi C pp : Addr} {fd gd gpd gid : FuncData} (F : Fun K "_are_numbers" "_are_numbers" sNumbers f fd) (FJ : Fun K "has_just_keys" "has_just_keys" sJustT g gd) (gJ : mg "has_just_keys" = some (.ref g)) (GJ : FnOk P w K mg base CX0 1 g gd ["value", "keys"] (spJustT K))
    (FI : Fun K "is_integer" "is_integer" sInteger gi gid) (gI : mg "is_integer" = some (.ref gi)) (GI : FnOk P w K mg base CX0 2 gi gid ["value"] (spB integerD))
    (FP : Fun K "places" "Web.places" sWPlaces gp gpd) (PP : PropOf K C "places" pp gp) (GP : FnOk P w K mg base CX0 1 gp gpd ["self"] (spWPlaces C)) (WK : WebK K C) (T : BltB mg) : FnOk P w K mg base CX0 3 f fd ["web", "value"] (spNumbers K C) := by
  have nd := scNumbers.nd
  have bP : Binds K gpd ["self"] [] := FP.binds fun _ _ _ _ _ _ us hl => match us, hl with | [_], _ => rfl
  have bJ : Binds K gd ["value", "keys"] [] := FJ.binds fun _ _ _ _ _ _ us hl => match us, hl with | [_, _], _ => rfl
  have bI : Binds K gid ["value"] [] := FI.binds fun _ _ _ _ _ _ us hl => match us, hl with | [_], _ => rfl
  refine F.ok scNumbers (fun vs H Q E h => ?_) (fun cdv A outer s H vs Q E hr h => ⟨_, (pss_one (ps_ret (pe_and (pe_call GJ (hr.mono (by decide)) (by rfl) gJ FJ.kp bJ .nil pass0 (pa_cons (pv 1) (pa_cons (pe_prop (pv 0) WK.cls PP GP (hr.mono (by decide)) bP .nil pass0 rfl) pa_nil))) (pe_one (pe_callB (cr_all rfl) (by rfl) T.all (by decide +kernel) (pa_cons (pe_lock (pe_lc (own := [("number", 2)]) (g := gName 2) (tt := tYes) rfl nd (pi_values (pv 1)) (blkOk_by (own := [("number", 2)]) (N := NNu) (sc := defScope sNumbers) (by decide +kernel)) (fun _ _ _ _ _ => (pg_name (i := 2) nd rfl (Or.inl rfl))) (fun _ _ _ _ _ => pts_nil) (fun _ _ _ _ _ => (pe_call GI (hr.mono (by decide)) (by rfl) gI FI.kp bI .nil pass0 (pa_cons (pv 2) pa_nil))))) pa_nil)))))), ?_⟩)
  · obtain ⟨wb, vv, ks, ys, rfl, _⟩ := h
    rfl
  · obtain ⟨wb, vv, ks, ys, rfl, hw, h⟩ := h
    walk_at "rd"
    refine Rd.andv ?_
    obtain ⟨dx, p, q, n, nl, h1, wa, h3, h4, h5⟩ := hw.at_
    have k9 := hw.ok.nine
    walk_at "rd"
    unfold tProp
    walk_at "rd"
    refine ⟨wb, dx, _, rfl, h1, wb, ks, ys, rfl, hw, fun p' hp' => ?_⟩
    walk_at "rd"
    rcases h with ⟨t, ht, kt, k⟩ | ⟨a, kvs, ds, rfl, ha, kz, hv, k⟩
    · refine ⟨vv, p', ks, rfl, hp', by omega, Or.inl ⟨t, ht, kt, fun H1 e1 => ⟨_, rfl, ?_⟩⟩⟩
      refine Rd.iteF (by decide) ?_
      exact k H1 e1
    · refine ⟨.ref a, p', ks, rfl, hp', by omega, Or.inr ⟨a, kvs, rfl, ha, fun H1 e1 => ⟨_, rfl, ?_⟩⟩⟩
      cases c : justB ks kvs with
      | false =>
        have z := k H1 e1
        rw [c, Bool.false_and] at z
        refine Rd.iteF (by decide) ?_
        exact z
      | true =>
        refine Rd.iteT rfl ?_
        walk_at "rd"
        refine ⟨a, .dK kvs, e1 _ _ ha, trivial, fun od => ?_⟩
        have La : (upd H1 a (.frz od (.dK kvs))) a = some (.frz od (.dK kvs)) := upd_same
        have eL : Ex (wo a H) (upd H1 a (.frz od (.dK kvs))) := fun b o hb => by
          have na : b ≠ a := fun e => by
            rw [e] at hb
            unfold wo at hb
            rw [if_pos rfl] at hb
            exact nomatch hb
          exact (upd_ne na).trans (e1 _ _ (wo_in a _ _ _ hb))
        generalize upd H1 a (.frz od (.dK kvs)) = L at La eL ⊢
        refine Rd.lcm' ?_
        unfold iVals
        walk_at "rd"
        refine ⟨a, od, kvs, rfl, La, fun D hD => ?_⟩
        have ln : ds.length = kvs.length := by
          have z := dhAll_len hv
          rw [List.length_map] at z
          exact z.symm
        refine Rd.lc_mapV (walk_values (d := a) (o := od) (kvs := kvs)) (fun i => V.bl (integerD (ds.getD i .none))) hD (by omega) (fun H' e => e _ _ La) (fun _ => rfl) (fun i y Ha Hb R hi ea y1 hR => ?_) (fun H3 e3 h3 => ?_)
        · obtain ⟨rfl, kk, y2⟩ := y1
          obtain ⟨d, hd, hh⟩ := hv.at (i := i) (v := y) (by rw [List.getElem?_map, y2]; rfl)
          walk_at "rd"
          refine ⟨y, d, rfl, Dh.mv (eL.trans ea) hh, fun H4 e4 => ?_⟩
          have z := hR H4 e4
          have ed : ds.getD i .none = d := by rw [List.getD_eq_getElem?_getD, hd]; rfl
          rw [ed] at z
          exact z
        · refine ⟨e3 _ _ La, ?_⟩
          walk_at "rd"
          rw [bls] at h3
          have Da : D ≠ a := fun e => by
            rw [e, La] at hD
            exact nomatch hD
          refine ⟨D, _, rfl, SqL.of ((upd_ne Da).trans h3), ?_⟩
          have EE : Ex H (upd H3 a (.dK kvs)) := fun b o hb => by
            by_cases e : b = a
            · rw [e] at hb ⊢
              rw [ha] at hb
              cases hb
              exact upd_same
            · exact (upd_ne e).trans (e3 _ _ (eL _ _ (wo_of hb e)))
          have z := k _ EE
          rw [c, Bool.true_and] at z
          rw [← ln, range_get integerD .none ds, List.all_map]
          exact z
end
end OwW


namespace OwW
open PySem PyProof.Rows L2 L2H OwX Rd Evl
abbrev sDInit : Stmt := mth 32 0
abbrev NDi : List Str := ["self", "web", "amounts", "place"]
/-- amounts by place -/
def amK (ks : List Str) (f : Str → Int) : List (Key × V) := ks.map fun k => (Sum.inr k, .int (f k))
/-- debts at a of the web at wb -/
structure IsDebts (CW CD : Addr) (H : Hp) (a wb : Addr) (ks : List Str) (ys : TL) (f : Str → Int) : Prop where
  web : IsWeb CW H wb ks ys
  at_ : ∃ dx n : Addr, H a = some (.ins CD dx [("_web", .ref wb), ("_amounts", .ref n)]) ∧ H n = some (.dK (amK ks f))
theorem IsDebts.ex {CW CD : Addr} {H H' : Hp} {a wb : Addr} {ks : List Str} {ys : TL} {f : Str → Int} (d : IsDebts CW CD H a wb ks ys f) (e : Ex H H') : IsDebts CW CD H' a wb ks ys f := by
  obtain ⟨dx, n, h1, h2⟩ := d.at_
  exact ⟨d.web.ex e, dx, n, e _ _ h1, e _ _ h2⟩
structure DebtsK (K : PySem.W.Frag) (C : Addr) : Prop where
  cls : Cls K C
  nw : NoAttr K C "_web"
  na : NoAttr K C "_amounts"
/-- a dict of integers for the places -/
structure Nums (H : Hp) (m : Addr) (ks : List Str) (f : Str → Int) : Prop where
  at_ : ∃ kvs : List (Key × V), H m = some (.dK kvs) ∧ kvs.length ≤ 1000 ∧ justB ks kvs = true ∧ (∀ k ∈ ks, valV kvs (Sum.inr k) = some (.int (f k))) ∧ ∀ p ∈ kvs, ∃ i : Int, p.2 = .int i ∧ i.natAbs < 10 ^ 60
theorem Nums.ex {H H' : Hp} {m : Addr} {ks : List Str} {f : Str → Int} (n : Nums H m ks f) (e : Ex H H') : Nums H' m ks f := by
  obtain ⟨kvs, h, r⟩ := n.at_
  exact ⟨kvs, e _ _ h, r⟩
theorem amK_none {ks : List Str} {f : Str → Int} {k : Str} (h : ¬ k ∈ ks) : valV (amK ks f) (Sum.inr k) = none := by
  induction ks with
  | nil => rfl
  | cons t nl ih =>
    rw [List.mem_cons, not_or] at h
    show valV ((Sum.inr t, V.int (f t)) :: amK nl f) (Sum.inr k) = none
    rw [valV_neg (fun e => h.1 (Sum.inr.inj e).symm)]
    exact ih h.2
theorem amK_some {ks : List Str} {f : Str → Int} {k : Str} (h : k ∈ ks) : valV (amK ks f) (Sum.inr k) = some (.int (f k)) := by
  induction ks with
  | nil => exact nomatch h
  | cons t nl ih =>
    show valV ((Sum.inr t, V.int (f t)) :: amK nl f) (Sum.inr k) = _
    by_cases c : t = k
    · rw [valV_pos (by rw [c]), c]
    · rw [valV_neg (fun e => c (Sum.inr.inj e))]
      rcases List.mem_cons.mp h with e | e
      · exact absurd e.symm c
      · exact ih e
def spDInit (CW CD : Addr) : Sp := fun vs H Q _ => ∃ (a wb m dx : Addr) (ks : List Str) (ys : TL) (f : Str → Int) (H0 : Hp), vs = [.ref a, .ref wb, .ref m] ∧ H0 a = none ∧ Ex H0 H ∧ H a = some (.ins CD dx []) ∧ IsWeb CW H0 wb ks ys ∧ Nums H0 m ks f ∧ ∀ H', Ex H0 H' → IsDebts CW CD H' a wb ks ys f → Q .non H'
theorem nums_data {H : Hp} : ∀ {kvs : List (Key × V)}, (∀ p ∈ kvs, ∃ i : Int, p.2 = .int i ∧ i.natAbs < 10 ^ 60) → ∃ ds : List PyData, DhAll H (kvs.map (·.2)) ds ∧ ds.all integerD = true
  | [], _ => ⟨[], .nil, rfl⟩
  | p :: kvs, h => by
    obtain ⟨ds, h1, h2⟩ := nums_data (H := H) (kvs := kvs) fun q hq => h q (List.mem_cons_of_mem _ hq)
    obtain ⟨i, e, hi⟩ := h p List.mem_cons_self
    refine ⟨.int i :: ds, ?_, ?_⟩
    · rw [List.map_cons, e]
      exact .cons (.int i) h1
    · rw [List.all_cons, h2, Bool.and_true]
      exact decide_eq_true hi
section
variable {P : Program} {w : World} {K : PySem.W.Frag} {mg : Str → Option Value} {base : Heap}
theorem scDInit : FnScope NDi ["self", "web", "amounts"] (defScope sDInit) := ⟨rfl, rfl, rfl, by decide +kernel, rfl, by decide +kernel, by decide +kernel⟩
theorem ok_dinit {f g gp gn CW CD pp : Addr} {fd gd gpd gnd : FuncData} (F : Fun K "__init__" "Debts.__init__" sDInit f fd) (FW : Fun K "need_web" "need_web" sNeedW g gd) (gW : mg "need_web" = some (.ref g)) (GW : FnOk P w K mg base CX0 1 g gd ["web"] (spNeedW CW))
    (FN : Fun K "_are_numbers" "_are_numbers" sNumbers gn gnd) (gN : mg "_are_numbers" = some (.ref gn)) (GN : FnOk P w K mg base CX0 3 gn gnd ["web", "value"] (spNumbers K CW))
    (FP : Fun K "places" "Web.places" sWPlaces gp gpd) (PP : PropOf K CW "places" pp gp) (GP : FnOk P w K mg base CX0 1 gp gpd ["self"] (spWPlaces CW)) (WK : WebK K CW) (DK : DebtsK K CD) : FnOk P w K mg base CX0 4 f fd ["self", "web", "amounts"] (spDInit CW CD) := by
  have nd := scDInit.nd
  have bP : Binds K gpd ["self"] [] := FP.binds fun _ _ _ _ _ _ us hl => match us, hl with | [_], _ => rfl
  have bW : Binds K gd ["web"] [] := FW.binds fun _ _ _ _ _ _ us hl => match us, hl with | [_], _ => rfl
  have bN : Binds K gnd ["web", "value"] [] := FN.binds fun _ _ _ _ _ _ us hl => match us, hl with | [_, _], _ => rfl
  refine F.ok scDInit (fun vs H Q E h => ?_) (fun cdv A outer s H vs Q E hr h => ⟨_, (pss_cons (ps_expr (pe_call GW (hr.mono (by decide)) (by rfl) gW FW.kp bW .nil pass0 (pa_cons (pv 1) pa_nil)))
    (pss_cons (ps_if (pt_not (pt_val (pe_call GN (hr.mono (by decide)) (by rfl) gN FN.kp bN .nil pass0 (pa_cons (pv 1) (pa_cons (pv 2) pa_nil))) (fun _ => rfl))) pss_dead pss_nil)
    (pss_cons (ps_fld (pv 0) (pv 1) rfl)
    (pss_one (ps_fld (pv 0) (pe_dc (own := [("place", 3)]) (g := gName 3) (tt := tYes) rfl nd (pi_tup (pe_prop (pv 1) WK.cls PP GP (hr.mono (by decide)) bP .nil pass0 rfl)) (blkOk_by (own := [("place", 3)]) (N := NDi) (sc := defScope sDInit) (by decide +kernel)) (fun _ _ _ _ _ => (pg_name (i := 3) nd rfl (Or.inl rfl))) (fun _ _ _ _ _ => pts_nil) (fun _ _ _ _ _ => (pv 3)) (fun _ _ _ _ _ => (pe_dget (units1 hr) (pv 2) (pv 3) (fun _ _ => rfl)))) rfl))))), ?_⟩)
  · obtain ⟨a, wb, m, dx, ks, ys, f, H0, rfl, _⟩ := h
    rfl
  · obtain ⟨a, wb, m, dx, ks, ys, fn, H0, rfl, ha0, e0, ha, hw, hn, k⟩ := h
    walk_at "rd"
    refine ⟨wb, ks, ys, rfl, hw.ex e0, ?_⟩
    walk_at "rd"
    obtain ⟨kvs, m1, kz, jb, vals, nums⟩ := hn.at_
    obtain ⟨ds, dh, di⟩ := nums_data (H := wo m H) nums
    refine ⟨wb, .ref m, ks, ys, rfl, hw.ex e0, Or.inr ⟨m, kvs, ds, rfl, e0 _ _ m1, kz, dh, fun H1 e1 => ⟨_, rfl, ?_⟩⟩⟩
    rw [jb, di]
    refine Rd.iteF (by decide) ?_
    walk_at "rd"
    unfold sFld
    walk_at "rd"
    refine ⟨a, CD, dx, [], rfl, e1 _ _ ha, DK.cls, DK.nw, by simp, ?_⟩
    have E2 : Ex H0 (upd H1 a (.ins CD dx (putF "_web" (.ref wb) []))) := (e0.trans e1).mut ha0
    have a2 : (upd H1 a (.ins CD dx (putF "_web" (.ref wb) []))) a = some (.ins CD dx [("_web", .ref wb)]) := upd_same
    generalize upd H1 a (.ins CD dx (putF "_web" (.ref wb) [])) = H2 at E2 a2 ⊢
    have hw2 := hw.ex E2
    have m2 := E2 _ _ m1
    have k9 := hw2.ok.nine
    have kas := hw2.ok.asc
    obtain ⟨dy, p, q, n, nl, h1, wa, h3, h4, h5⟩ := hw2.at_
    dsimp only
    unfold tDc iTup tProp
    walk_at "rd"
    refine ⟨wb, dy, _, rfl, h1, wb, ks, ys, rfl, hw2, fun p' hp' => ?_⟩
    refine ⟨p', rfl, ⟨_, SqT.of hp'⟩, fun D hD => ?_⟩
    refine dc_tup (xs := ks.map V.str) (fun i H4 => Ex H2 H4 ∧ H4 D = some (.dK (amK (ks.take i) fn))) ⟨Ex.new hD, upd_same⟩ (fun i H4 _ hP => SqT.of (hP.1 _ _ hp')) (fun i z H4 hz hP => ?_) (fun H4 hP => ?_)
    · obtain ⟨e4, hn4⟩ := hP
      rw [List.getElem?_map] at hz
      cases hb : ks[i]? with
      | none => rw [hb] at hz; exact nomatch hz
      | some b =>
        rw [hb] at hz
        cases hz
        show _ ∧ _
        refine ⟨rfl, ?_⟩
        unfold tYes
        show (if (true : Bool) = true then _ else _)
        rw [if_pos rfl]
        walk_at "rd"
        unfold tDGet
        walk_at "rd"
        have dg := DGet.k (k := Sum.inr b) (e4 _ _ m2)
        rw [vals b (List.mem_of_getElem? hb)] at dg
        refine ⟨m, _, rfl, dg, ?_⟩
        refine ⟨amK (ks.take i) fn, Sum.inr b, rfl, hn4, sz_lt (by unfold amK; rw [List.length_map, List.length_take]; omega), e4.mut hD, ?_⟩
        have nb : ¬ b ∈ ks.take i := fun hm => by
          rw [← List.take_append_drop i ks] at kas
          have hd : b ∈ ks.drop i := List.mem_of_getElem? (i := 0) (by rw [List.getElem?_drop]; exact hb)
          have z := (List.pairwise_append.mp kas).2.2 b hm b hd
          rw [lt_irr] at z
          exact nomatch z
        rw [putK_new _ (amK_none nb), List.take_add_one, hb, upd_same]
        unfold amK
        rw [List.map_append]
        rfl
    · obtain ⟨e4, hn4⟩ := hP
      rw [List.length_map, List.take_length] at hn4
      walk_at "rd"
      have a4 := e4 _ _ a2
      refine ⟨a, CD, dx, _, rfl, a4, DK.cls, DK.na, by simp, ?_⟩
      have EE := (E2.trans e4).mut (o := .ins CD dx (putF "_amounts" (.ref D) [("_web", .ref wb)])) ha0
      have Da : D ≠ a := fun e => by
        rw [e, a2] at hD
        exact nomatch hD
      exact k _ EE ⟨hw.ex EE, dx, D, upd_same, (upd_ne Da).trans hn4⟩
end
end OwW


namespace OwW
open PySem PyProof.Rows L2 L2H OwX Rd Evl
abbrev sMDebts : Stmt := top 36
abbrev NMd : List Str := ["web", "amounts", "made", "place"]
def spMDebts (CW CD : Addr) : Sp := fun vs H Q _ => ∃ (wb m : Addr) (ks : List Str) (ys : TL) (f : Str → Int) (kvs : List (Key × V)), vs = [.ref wb, .ref m] ∧ IsWeb CW H wb ks ys ∧ H m = some (.dK kvs) ∧ (∀ k ∈ ks, valV kvs (Sum.inr k) = some (.int (f k))) ∧
  ∀ a H', Ex H H' → IsDebts CW CD H' a wb ks ys f → H a = none → Q (.ref a) H'
theorem take_step {ks : List Str} {f : Str → Int} {i : Nat} {b : Str} (asc : ks.Pairwise (fun a b => OwL2.lt a b = true)) (hb : ks[i]? = some b) : putK (amK (ks.take i) f) (Sum.inr b) (.int (f b)) = amK (ks.take (i + 1)) f := by
  have nb : ¬ b ∈ ks.take i := fun hm => by
    rw [← List.take_append_drop i ks] at asc
    have hd : b ∈ ks.drop i := List.mem_of_getElem? (i := 0) (by rw [List.getElem?_drop]; exact hb)
    have z := (List.pairwise_append.mp asc).2.2 b hm b hd
    rw [lt_irr] at z
    exact nomatch z
  rw [putK_new _ (amK_none nb), List.take_add_one, hb]
  unfold amK
  rw [List.map_append]
  rfl
theorem amK_nums {ks : List Str} {H : Hp} {m : Addr} (h : H m = some (.dK (amK ks fun _ => 0))) (h9 : ks.length ≤ 9) : Nums H m ks fun _ => 0 := by
  refine ⟨amK ks fun _ => 0, h, by unfold amK; rw [List.length_map]; omega, ?_, fun k hk => amK_some hk, fun p hp => ?_⟩
  · unfold justB
    rw [Bool.and_eq_true]
    refine ⟨decide_eq_true (by unfold amK; rw [List.length_map]), ?_⟩
    rw [List.all_eq_true]
    intro k hk
    rw [amK_some hk]
    rfl
  · obtain ⟨k, _, rfl⟩ := List.mem_map.mp hp
    exact ⟨0, rfl, by decide⟩
section
variable {P : Program} {w : World} {K : PySem.W.Frag} {mg : Str → Option Value} {base : Heap}
theorem scMDebts : FnScope NMd ["web", "amounts"] (defScope sMDebts) := ⟨rfl, rfl, rfl, by decide +kernel, rfl, by decide +kernel, by decide +kernel⟩
theorem ok_mdebts {f g gp CW CD pp : Addr} {fd gd gpd : FuncData} (F : Fun K "made_debts" "made_debts" sMDebts f fd) (FI : Fun K "__init__" "Debts.__init__" sDInit g gd) (M : Mk K CD g) (gD : mg "Debts" = some (.ref CD)) (GI : FnOk P w K mg base CX0 4 g gd ["self", "web", "amounts"] (spDInit CW CD))
    (FP : Fun K "places" "Web.places" sWPlaces gp gpd) (PP : PropOf K CW "places" pp gp) (GP : FnOk P w K mg base CX0 1 gp gpd ["self"] (spWPlaces CW)) (WK : WebK K CW) (DK : DebtsK K CD) : FnOk P w K mg base CX0 6 f fd ["web", "amounts"] (spMDebts CW CD) := by
  have nd := scMDebts.nd
  have bP : Binds K gpd ["self"] [] := FP.binds fun _ _ _ _ _ _ us hl => match us, hl with | [_], _ => rfl
  have bI : Binds K gd ["self", "web", "amounts"] [] := FI.binds fun _ _ _ _ _ _ us hl => match us, hl with | [_, _, _], _ => rfl
  refine F.ok scMDebts (fun vs H Q E h => ?_) (fun cdv A outer s H vs Q E hr h => ⟨_, (pss_cons (ps_set (i := 2) nd rfl (Or.inl rfl) (pe_make M GI (hr.mono (by decide)) (by rfl) gD bI .nil pass0 (pa_cons (pv 0) (pa_cons (pe_dc (own := [("place", 3)]) (g := gName 3) (tt := tYes) rfl nd (pi_tup (pe_prop (pv 0) WK.cls PP GP (hr.mono (by decide)) bP .nil pass0 rfl)) (blkOk_by (own := [("place", 3)]) (N := NMd) (sc := defScope sMDebts) (by decide +kernel)) (fun _ _ _ _ _ => (pg_name (i := 3) nd rfl (Or.inl rfl))) (fun _ _ _ _ _ => pts_nil) (fun _ _ _ _ _ => (pv 3)) (fun _ _ _ _ _ => pe_int)) pa_nil))))
    (pss_cons (ps_fld (pv 2) (pe_dc (own := [("place", 3)]) (g := gName 3) (tt := tYes) rfl nd (pi_tup (pe_prop (pv 0) WK.cls PP GP (hr.mono (by decide)) bP .nil pass0 rfl)) (blkOk_by (own := [("place", 3)]) (N := NMd) (sc := defScope sMDebts) (by decide +kernel)) (fun _ _ _ _ _ => (pg_name (i := 3) nd rfl (Or.inl rfl))) (fun _ _ _ _ _ => pts_nil) (fun _ _ _ _ _ => (pv 3)) (fun _ _ _ _ _ => (pe_dget (units1 hr) (pv 1) (pv 3) (fun _ _ => rfl)))) rfl)
    (pss_one (ps_ret (pv 2))))), ?_⟩)
  · obtain ⟨wb, m, ks, ys, f, kvs, rfl, _⟩ := h
    rfl
  · obtain ⟨wb, m, ks, ys, fn, kvs, rfl, hw, hm, vals, k⟩ := h
    have k9 := hw.ok.nine
    have kas := hw.ok.asc
    walk_at "rd"
    unfold tMake
    walk_at "rd"
    unfold tDc iTup tProp
    walk_at "rd"
    obtain ⟨dy, p, q, n, nl, h1, wa, h3, h4, h5⟩ := hw.at_
    refine ⟨wb, dy, _, rfl, h1, wb, ks, ys, rfl, hw, fun p' hp' => ?_⟩
    refine ⟨p', rfl, ⟨_, SqT.of hp'⟩, fun D hD => ?_⟩
    refine dc_tup (xs := ks.map V.str) (fun i H4 => Ex H H4 ∧ H4 D = some (.dK (amK (ks.take i) fun _ => 0))) ⟨Ex.new hD, upd_same⟩ (fun i H4 _ hP => SqT.of (hP.1 _ _ hp')) (fun i z H4 hz hP => ?_) (fun H4 hP => ?_)
    · obtain ⟨e4, hn4⟩ := hP
      rw [List.getElem?_map] at hz
      cases hb : ks[i]? with
      | none => rw [hb] at hz; exact nomatch hz
      | some b =>
        rw [hb] at hz
        cases hz
        show _ ∧ _
        refine ⟨rfl, ?_⟩
        unfold tYes
        show (if (true : Bool) = true then _ else _)
        rw [if_pos rfl]
        walk_at "rd"
        refine ⟨amK (ks.take i) fun _ => 0, Sum.inr b, rfl, hn4, sz_lt (by unfold amK; rw [List.length_map, List.length_take]; omega), e4.mut hD, ?_⟩
        rw [take_step (f := fun _ => 0) kas hb, upd_same]
    · obtain ⟨e4, hn4⟩ := hP
      rw [List.length_map, List.take_length] at hn4
      walk_at "rd"
      refine fun x dx hx hdx nx => ?_
      refine ⟨x, wb, D, dx, ks, ys, fun _ => 0, H4, rfl, hx, ((Ex.refl H4).mut hdx).mut hx, upd_same, hw.ex e4, amK_nums hn4 k9, fun H5 e5 db => ⟨rfl, ?_⟩⟩
      obtain ⟨dz, n0, d1, d2⟩ := db.at_
      have E5 := e4.trans e5
      have xn : H x = none := by
        cases c : H x with
        | none => rfl
        | some o =>
          have z := e4 _ _ c
          rw [hx] at z
          exact nomatch z
      walk_at "rd"
      have hw5 := db.web
      obtain ⟨dy5, p5, q5, n5, nl5, g1, _⟩ := hw5.at_
      have m5 := E5 _ _ hm
      unfold sFld
      walk_at "rd"
      refine ⟨wb, dy5, _, rfl, g1, wb, ks, ys, rfl, hw5, fun p6 hp6 => ?_⟩
      refine ⟨p6, rfl, ⟨_, SqT.of hp6⟩, fun D2 hD2 => ?_⟩
      refine dc_tup (xs := ks.map V.str) (fun i H6 => Ex H5 H6 ∧ H6 D2 = some (.dK (amK (ks.take i) fn))) ⟨Ex.new hD2, upd_same⟩ (fun i H6 _ hP => SqT.of (hP.1 _ _ hp6)) (fun i z H6 hz hP => ?_) (fun H6 hP => ?_)
      · obtain ⟨e6, hn6⟩ := hP
        rw [List.getElem?_map] at hz
        cases hb : ks[i]? with
        | none => rw [hb] at hz; exact nomatch hz
        | some b =>
          rw [hb] at hz
          cases hz
          show _ ∧ _
          refine ⟨rfl, ?_⟩
          unfold tYes
          show (if (true : Bool) = true then _ else _)
          rw [if_pos rfl]
          walk_at "rd"
          unfold tDGet
          walk_at "rd"
          have dg := DGet.k (k := Sum.inr b) (e6 _ _ m5)
          rw [vals b (List.mem_of_getElem? hb)] at dg
          refine ⟨m, _, rfl, dg, ?_⟩
          refine ⟨amK (ks.take i) fn, Sum.inr b, rfl, hn6, sz_lt (by unfold amK; rw [List.length_map, List.length_take]; omega), e6.mut hD2, ?_⟩
          rw [take_step kas hb, upd_same]
      · obtain ⟨e6, hn6⟩ := hP
        rw [List.length_map, List.take_length] at hn6
        walk_at "rd"
        have d6 := e6 _ _ d1
        refine ⟨x, CD, dz, _, rfl, d6, DK.cls, DK.na, by simp, ?_⟩
        walk_at "rd"
        have EE := (E5.trans e6).mut (o := .ins CD dz (putF "_amounts" (.ref D2) [("_web", .ref wb), ("_amounts", .ref n0)])) xn
        have Dx : D2 ≠ x := fun e => by
          rw [e, d1] at hD2
          exact nomatch hD2
        exact k x _ EE ⟨hw.ex EE, dz, D2, upd_same, (upd_ne Dx).trans hn6⟩ xn
end
end OwW


namespace OwW
open PySem PyProof.Rows L2 L2H OwX Rd Evl
abbrev sDWeb : Stmt := mth 32 4
abbrev sDAm : Stmt := mth 32 5
def spDWeb (CW CD : Addr) : Sp := fun vs H Q _ => ∃ (a wb : Addr) (ks : List Str) (ys : TL) (f : Str → Int), vs = [.ref a] ∧ IsDebts CW CD H a wb ks ys f ∧ Q (.ref wb) H
/-- a new dict of the amounts -/
def spDAm (CW CD : Addr) : Sp := fun vs H Q _ => ∃ (a wb : Addr) (ks : List Str) (ys : TL) (f : Str → Int), vs = [.ref a] ∧ IsDebts CW CD H a wb ks ys f ∧ ∀ p H', Ex H H' → H' p = some (.dK (amK ks f)) → H p = none → Q (.ref p) H'
section
variable {P : Program} {w : World} {K : PySem.W.Frag} {mg : Str → Option Value} {base : Heap}
theorem scDWeb : FnScope ["self"] ["self"] (defScope sDWeb) := ⟨rfl, rfl, rfl, by decide +kernel, rfl, by decide +kernel, by decide +kernel⟩
theorem ok_dweb {f CW CD : Addr} {fd : FuncData} (F : Fun K "web" "Debts.web" sDWeb f fd) (DK : DebtsK K CD) : FnOk P w K mg base CX0 1 f fd ["self"] (spDWeb CW CD) := by
  have nd := scDWeb.nd
  refine F.ok scDWeb (fun vs H Q E h => ?_) (fun cdv A outer s H vs Q E hr h => ⟨_, (pss_one (ps_ret (pe_fld (pv 0) rfl))), ?_⟩)
  · obtain ⟨a, wb, ks, ys, fn, rfl, _⟩ := h
    rfl
  · obtain ⟨a, wb, ks, ys, fn, rfl, db, k⟩ := h
    obtain ⟨dx, n, h1, h2⟩ := db.at_
    walk_at "rd"
    exact ⟨_, rfl, a, CD, dx, _, .ref wb, rfl, h1, DK.cls, DK.nw, rfl, k⟩
theorem scDAm : FnScope ["self"] ["self"] (defScope sDAm) := ⟨rfl, rfl, rfl, by decide +kernel, rfl, by decide +kernel, by decide +kernel⟩
theorem ok_dam {f CW CD : Addr} {fd : FuncData} (F : Fun K "amounts" "Debts.amounts" sDAm f fd) (gd : mg "dict" = none) (DK : DebtsK K CD) : FnOk P w K mg base CX0 1 f fd ["self"] (spDAm CW CD) := by
  have nd := scDAm.nd
  refine F.ok scDAm (fun vs H Q E h => ?_) (fun cdv A outer s H vs Q E hr h => ⟨_, (pss_one (ps_ret (pe_callTy call_dictD (by rfl) gd (by decide +kernel) (pa_cons (pe_fld (pv 0) rfl) pa_nil)))), ?_⟩)
  · obtain ⟨a, wb, ks, ys, fn, rfl, _⟩ := h
    rfl
  · obtain ⟨a, wb, ks, ys, fn, rfl, db, k⟩ := h
    obtain ⟨dx, n, h1, h2⟩ := db.at_
    walk_at "rd"
    unfold tFld
    walk_at "rd"
    refine ⟨a, CD, dx, _, .ref n, rfl, h1, DK.cls, DK.na, rfl, ?_⟩
    walk_at "rd"
    exact ⟨n, _, rfl, .inl h2, fun p hp => k p _ (Ex.new hp) upd_same hp⟩
end
end OwW


namespace OwW
open PySem PyProof.Rows L2 L2H OwX Rd Evl
abbrev sLentA : Stmt := top 38
abbrev NLa : List Str := ["web", "amounts", "plan", "left", "place", "near", "other"]
/-- a dict that has the integers f of the places -/
def Has (H : Hp) (m : Addr) (ks : List Str) (f : Str → Int) : Prop := ∃ kvs : List (Key × V), H m = some (.dK kvs) ∧ ∀ k ∈ ks, valV kvs (Sum.inr k) = some (.int (f k))
theorem Has.get {H H' : Hp} {m : Addr} {ks : List Str} {f : Str → Int} (h : Has H m ks f) (e : Ex H H') {k : Str} (hk : k ∈ ks) : DGet H' m (.str k) (some (.int (f k))) := by
  obtain ⟨kvs, h1, h2⟩ := h
  have z := DGet.k (k := Sum.inr k) (e _ _ h1)
  rw [h2 k hk] at z
  exact z
/-- the amounts behind a plan of lending -/
def lentF (ts : List (Str × Str)) (am pl : Str → Int) (k : Str) : Int := am k - (endsL ts k).length * pl k + ((endsL ts k).map pl).sum
def spLentA (CW : Addr) : Sp := fun vs H Q _ => ∃ (wb m1 m2 : Addr) (ks : List Str) (ys : TL) (am pl : Str → Int), vs = [.ref wb, .ref m1, .ref m2] ∧ IsWeb CW H wb ks ys ∧ Has H m1 ks am ∧ Has H m2 ks pl ∧
  ∀ p H', Ex H H' → H' p = some (.dK (amK ks (lentF (ys.map (·.2)) am pl))) → H p = none → Q (.ref p) H'
theorem perm_sum {l m : List Int} (h : l.Perm m) : l.sum = m.sum := by
  induction h with
  | nil => rfl
  | cons x _ ih => rw [List.sum_cons, List.sum_cons, ih]
  | swap x y l => rw [List.sum_cons, List.sum_cons, List.sum_cons, List.sum_cons]; omega
  | trans _ _ a b => exact a.trans b
section
variable {P : Program} {w : World} {K : PySem.W.Frag} {mg : Str → Option Value} {base : Heap}
theorem scLentA : FnScope NLa ["web", "amounts", "plan"] (defScope sLentA) := ⟨rfl, rfl, rfl, by decide +kernel, rfl, by decide +kernel, by decide +kernel⟩
theorem ok_lenta {f gn gp CW pp : Addr} {fd gnd gpd : FuncData} (F : Fun K "lent_amounts" "lent_amounts" sLentA f fd) (FN : Fun K "neighbours" "Web.neighbours" sWNear gn gnd) (MN : Meth K CW "neighbours" gn) (GN : FnOk P w K mg base CX0 4 gn gnd ["self", "place"] (spWNear CW))
    (FP : Fun K "places" "Web.places" sWPlaces gp gpd) (PP : PropOf K CW "places" pp gp) (GP : FnOk P w K mg base CX0 1 gp gpd ["self"] (spWPlaces CW)) (WK : WebK K CW) (T : BltB mg) (gS : mg "sum" = none) : FnOk P w K mg base CX0 5 f fd ["web", "amounts", "plan"] (spLentA CW) := by
  have nd := scLentA.nd
  have bP : Binds K gpd ["self"] [] := FP.binds fun _ _ _ _ _ _ us hl => match us, hl with | [_], _ => rfl
  have bN : Binds K gnd ["self", "place"] [] := FN.binds fun _ _ _ _ _ _ us hl => match us, hl with | [_, _], _ => rfl
  refine F.ok scLentA (fun vs H Q E h => ?_) (fun cdv A outer s H vs Q E hr h => ⟨_, (pss_cons (ps_set (i := 3) nd rfl (Or.inl rfl) pe_dnewK)
    (pss_cons (ps_for PassesOwn.never rfl (pi_tup (pe_prop (pv 0) WK.cls PP GP (hr.mono (by decide)) bP .nil pass0 rfl)) (pg_name (i := 4) nd rfl (Or.inl rfl)) (pss_cons (ps_set (i := 5) nd rfl (Or.inl rfl) (pe_meth (pv 0) WK.cls MN GN (hr.mono (by decide)) bN .nil pass0 (pa_cons (pv 4) pa_nil)))
    (pss_one (ps_asg (pe_op op_add (pe_op op_sub (pe_dget (units1 hr) (pv 1) (pv 4) (fun _ _ => rfl)) (pe_op op_mul (pe_callB call_len_seq (by rfl) T.len (by decide +kernel) (pa_cons (pv 5) pa_nil)) (pe_dget (units1 hr) (pv 2) (pv 4) (fun _ _ => rfl)))) (pe_callB (cr_sum rfl) (by rfl) gS (by decide +kernel) (pa_cons (pe_lc (own := [("other", 6)]) (g := gName 6) (tt := tYes) rfl nd (pi_tup (pv 5)) (blkOk_by (own := [("other", 6)]) (N := NLa) (sc := defScope sLentA) (by decide +kernel)) (fun _ _ _ _ _ => (pg_name (i := 6) nd rfl (Or.inl rfl))) (fun _ _ _ _ _ => pts_nil) (fun _ _ _ _ _ => (pe_dget (units1 hr) (pv 2) (pv 6) (fun _ _ => rfl)))) pa_nil))) (pg_sub (pv 3) (pv 4) (L2.set_dict (units1 hr)))))))
    (pss_one (ps_ret (pv 3))))), ?_⟩)
  · obtain ⟨wb, m1, m2, ks, ys, am, pl, rfl, _⟩ := h
    rfl
  · obtain ⟨wb, m1, m2, ks, ys, am, pl, rfl, hw, ha, hp, k⟩ := h
    have k9 := hw.ok.nine
    have kas := hw.ok.asc
    have few := hw.ok.few
    obtain ⟨dy, p, q, n, nl, h1, wa, h3, h4, h5⟩ := hw.at_
    walk_at "rd"
    refine fun L hL => ?_
    have e1 : Ex H (upd H L (.dK [])) := Ex.new hL
    have l1 : (upd H L (.dK [])) L = some (.dK (amK (ks.take 0) (lentF (ys.map (·.2)) am pl))) := upd_same
    generalize upd H L (.dK []) = H1 at e1 l1 ⊢
    walk_at "rd"
    with_reducible refine Rd.for' ?_
    unfold iTup tProp
    walk_at "rd"
    refine ⟨wb, dy, _, rfl, e1 _ _ h1, wb, ks, ys, rfl, hw.ex e1, fun p' hp' => ?_⟩
    refine ⟨p', rfl, ⟨_, SqT.of hp'⟩, ?_⟩
    refine for_it (walk_tup (xs := ks.map V.str)) (fun i σ H' => ∃ x y z : Option V, σ = [some (.ref wb), some (.ref m1), some (.ref m2), some (.ref L), x, y, z] ∧ Ex H H' ∧ H' p' = some (.tup (ks.map V.str)) ∧ H' L = some (.dK (amK (ks.take i) (lentF (ys.map (·.2)) am pl)))) ⟨none, none, none, rfl, e1, hp', l1⟩ (fun i σ H' _ hP => ?_) (fun i z σ H3 H4 hi hP hY => ?_) (fun σ H3 hP => ?_)
    · obtain ⟨_, _, _, _, _, hp5, _⟩ := hP
      exact SqT.of hp5
    · obtain ⟨x, y, zz, rfl, e4, hp4, l4⟩ := hP
      obtain ⟨rfl, hz⟩ := hY
      rw [List.getElem?_map] at hz
      cases hb : ks[i]? with
      | none => rw [hb] at hz; exact nomatch hz
      | some b =>
        rw [hb] at hz
        cases hz
        have bk := List.mem_of_getElem? hb
        walk_at "rd"
        unfold tMeth
        walk_at "rd"
        refine ⟨wb, dy, _, rfl, e4 _ _ h1, rfl, ?_⟩
        walk_at "rd"
        refine ⟨wb, ks, ys, b, rfl, hw.ex e4, bk, fun pn es hpn pm so => ?_⟩
        walk_at "rd"
        unfold tDGet
        walk_at "rd"
        refine ⟨m1, _, rfl, ha.get e4 bk, ?_⟩
        walk_at "rd"
        have el : es.length ≤ 18 := by
          have z := pm.length_eq
          unfold endsL at z
          rw [List.length_map] at z
          have y := List.length_filter_le (hits b) (ys.map (·.2))
          omega
        have esk : ∀ o ∈ es, o ∈ ks := fun o ho => by
          have z := pm.mem_iff.mp ho
          rcases ends_mem z with y | y
          · exact (hw.ok.ends _ y).2.1
          · exact (hw.ok.ends _ y).1
        refine ⟨pn, _, rfl, Or.inr (SqT.of hpn), ?_⟩
        walk_at "rd"
        refine ⟨m2, _, rfl, hp.get e4 bk, ?_⟩
        rw [List.length_map]
        refine Rd.ic (Or.inl ⟨by omega, by omega⟩) ?_
        walk_at "rd"
        refine Rd.lcm' ?_
        refine ⟨_, rfl, pn, rfl, ⟨_, SqT.of hpn⟩, fun D hD => ?_⟩
        refine Rd.lc_mapG (te := tDGet (tVar 2) (tVar 6)) (g := gName 6) (walk_tup (xs := es.map V.str)) (fun j => V.int (pl (es.getD j ("" : Str)))) hD (by rw [List.length_map]; omega) (fun H' e => ex_t e (SqT.of hpn)) (fun j y Ha Hb R hj ea y1 hR => ?_) (fun H6 e6 h6 => ?_)
        · obtain ⟨rfl, y2⟩ := y1
          rw [List.getElem?_map] at y2
          obtain ⟨o, ho, rfl⟩ := Option.map_eq_some_iff.mp y2
          have eo : es.getD j ("" : Str) = o := by rw [List.getD_eq_getElem?_getD, ho]; rfl
          rw [eo] at hR
          show _ ∧ _
          refine ⟨rfl, ?_⟩
          unfold tDGet
          walk_at "rd"
          exact ⟨m2, _, rfl, hp.get (e4.trans ea) (esk o (List.mem_of_getElem? ho)), hR _ (Ex.refl _)⟩
        · walk_at "rd"
          have h6' : H6 D = some (.lst ((es.map pl).map V.int)) := by
            rw [h6, List.length_map, range_get (fun o => V.int (pl o)) ("" : Str) es, List.map_map]
            rfl
          have l6 := e6 _ _ l4
          have p6 := e6 _ _ hp4
          have pL : p' ≠ L := fun e => by
            rw [e, l6] at p6
            exact nomatch p6
          have ev : am b - (es.length : Int) * pl b + (es.map pl).sum = lentF (ys.map (·.2)) am pl b := by
            unfold lentF
            rw [pm.length_eq, perm_sum (pm.map pl)]
          refine ⟨D, es.map pl, rfl, SqL.of h6', ?_⟩
          walk_at "rd"
          rw [ev]
          refine ⟨L, _, rfl, DPut.k (k := Sum.inr b) l6 (sz_lt (by unfold amK; rw [List.length_map, List.length_take]; omega)), ?_⟩
          refine ⟨_, _, _, rfl, (e4.trans e6).mut hL, (upd_ne pL).trans p6, ?_⟩
          rw [take_step kas hb, upd_same]
    · obtain ⟨x, y, zz, rfl, e4, hp4, l4⟩ := hP
      rw [List.length_map, List.take_length] at l4
      walk_at "rd"
      exact k L _ e4 l4 hL
end
end OwW


namespace OwW
open PySem PyProof.Rows L2 L2H OwX Rd Evl
abbrev sLentBy : Stmt := top 37
def spLentBy (CW CD : Addr) : Sp := fun vs H Q _ => ∃ (a wb m : Addr) (ks : List Str) (ys : TL) (am pl : Str → Int), vs = [.ref a, .ref m] ∧ IsDebts CW CD H a wb ks ys am ∧ Has H m ks pl ∧
  ∀ b H', Ex H H' → IsDebts CW CD H' b wb ks ys (lentF (ys.map (·.2)) am pl) → H b = none → Q (.ref b) H'
section
variable {P : Program} {w : World} {K : PySem.W.Frag} {mg : Str → Option Value} {base : Heap}
theorem scLentBy : FnScope ["debts", "plan"] ["debts", "plan"] (defScope sLentBy) := ⟨rfl, rfl, rfl, by decide +kernel, rfl, by decide +kernel, by decide +kernel⟩
theorem ok_lentby {f gm gl gw ga CW CD pw pa : Addr} {fd gmd gld gwd gad : FuncData} (F : Fun K "lent_by" "lent_by" sLentBy f fd) (FM : Fun K "made_debts" "made_debts" sMDebts gm gmd) (gM : mg "made_debts" = some (.ref gm)) (GM : FnOk P w K mg base CX0 6 gm gmd ["web", "amounts"] (spMDebts CW CD))
    (FL : Fun K "lent_amounts" "lent_amounts" sLentA gl gld) (gL : mg "lent_amounts" = some (.ref gl)) (GL : FnOk P w K mg base CX0 5 gl gld ["web", "amounts", "plan"] (spLentA CW))
    (FW : Fun K "web" "Debts.web" sDWeb gw gwd) (PW : PropOf K CD "web" pw gw) (GW : FnOk P w K mg base CX0 1 gw gwd ["self"] (spDWeb CW CD)) (FA : Fun K "amounts" "Debts.amounts" sDAm ga gad) (PA' : PropOf K CD "amounts" pa ga) (GA : FnOk P w K mg base CX0 1 ga gad ["self"] (spDAm CW CD)) (DK : DebtsK K CD) : FnOk P w K mg base CX0 7 f fd ["debts", "plan"] (spLentBy CW CD) := by
  have nd := scLentBy.nd
  have bW : Binds K gwd ["self"] [] := FW.binds fun _ _ _ _ _ _ us hl => match us, hl with | [_], _ => rfl
  have bA : Binds K gad ["self"] [] := FA.binds fun _ _ _ _ _ _ us hl => match us, hl with | [_], _ => rfl
  have bM : Binds K gmd ["web", "amounts"] [] := FM.binds fun _ _ _ _ _ _ us hl => match us, hl with | [_, _], _ => rfl
  have bL : Binds K gld ["web", "amounts", "plan"] [] := FL.binds fun _ _ _ _ _ _ us hl => match us, hl with | [_, _, _], _ => rfl
  refine F.ok scLentBy (fun vs H Q E h => ?_) (fun cdv A outer s H vs Q E hr h => ⟨_, (pss_one (ps_ret (pe_call GM (hr.mono (by decide)) (by rfl) gM FM.kp bM .nil pass0 (pa_cons (pe_prop (pv 0) DK.cls PW GW (hr.mono (by decide)) bW .nil pass0 rfl) (pa_cons (pe_call GL (hr.mono (by decide)) (by rfl) gL FL.kp bL .nil pass0 (pa_cons (pe_prop (pv 0) DK.cls PW GW (hr.mono (by decide)) bW .nil pass0 rfl) (pa_cons (pe_prop (pv 0) DK.cls PA' GA (hr.mono (by decide)) bA .nil pass0 rfl) (pa_cons (pv 1) pa_nil)))) pa_nil))))), ?_⟩)
  · obtain ⟨a, wb, m, ks, ys, am, pl, rfl, _⟩ := h
    rfl
  · obtain ⟨a, wb, m, ks, ys, am, pl, rfl, db, hp, k⟩ := h
    obtain ⟨dx, n, h1, h2⟩ := db.at_
    walk_at "rd"
    unfold tProp
    walk_at "rd"
    refine ⟨a, dx, _, rfl, h1, a, wb, ks, ys, am, rfl, db, ?_⟩
    walk_at "rd"
    refine ⟨a, dx, _, rfl, h1, a, wb, ks, ys, am, rfl, db, ?_⟩
    walk_at "rd"
    refine ⟨a, dx, _, rfl, h1, a, wb, ks, ys, am, rfl, db, fun p1 H1 e1 hp1 hn1 => ?_⟩
    walk_at "rd"
    refine ⟨wb, p1, m, ks, ys, am, pl, rfl, db.web.ex e1, ⟨_, hp1, fun k hk => amK_some hk⟩, (let ⟨kvs, z, r⟩ := hp; ⟨kvs, e1 _ _ z, r⟩), fun p2 H2 e2 hp2 hn2 => ?_⟩
    walk_at "rd"
    refine ⟨wb, p2, ks, ys, lentF (ys.map (·.2)) am pl, _, rfl, db.web.ex (e1.trans e2), hp2, fun k hk => amK_some hk, fun b H3 e3 hb hnb => ?_⟩
    have hn : H b = none := by
      cases c : H b with
      | none => rfl
      | some o =>
        have z := (e1.trans e2) _ _ c
        rw [hnb] at z
        exact nomatch z
    exact k b H3 ((e1.trans e2).trans e3) hb hn
end
end OwW

namespace OwX
open PySem PySem.Spec PyProof.Rows L2
/-- o.m(e, .., k = v, ..) of an instance of the class at C -/
def tMethN (C : Addr) (m : Str) (n mk : Nat) (sp : Sp) (gV : List V → List V → List V) (E : XK) (ta : TE) (t tk : TA) : TE := fun σ H Q => ta σ H fun x H1 => ∃ a dx fs, x = .ref a ∧ H1 a = some (.ins C dx fs) ∧ fs.lookup m = none ∧
  t σ H1 fun vs H2 => tk σ H2 fun zs H3 => (x :: vs).length = n ∧ zs.length = mk ∧ sp (gV (x :: vs) zs) H3 Q E
section
variable {X : Cx} {CX : CXT} {k n : Nat} {C f : Addr} {fd : FuncData} {ps ks : List Str} {sp : Sp} {E : XK} {m : Str} {apos pos : Pos} {o e : Expr} {es : List Expr} {kws : List Keyword} {ta : TE} {t tk : TA} {g : List Value → List Value → List Value} {gV : List V → List V → List V}
theorem pe_methN {pl : Sem Bool} (he : PE X o ta) (c : Cls X.K C) (hm : Meth X.K C m f) (F : FnOk X.prog X.w X.K X.mg X.base CX k f fd ps sp) (hr : Room k X.A) (hb : KBn X.K fd ps n ks g gV) (hx : Passes CX X E) (ha : PA X (e :: es) t) (hkw : PK X kws tk)
    (hall : (backToKw pos (keywordEach kws X.env)).all (·.1.isSome) = true := by rfl) (hks : (backToKw pos (keywordEach kws X.env)).filterMap (·.1) = ks := by rfl)
    (hst : starEach (e :: es) X.env = (false, eval e X.env) :: starEach es X.env := by rfl)
    (hpl : ((backTo pos (starEach (e :: es) X.env)).any (·.1) || (backToKw pos (keywordEach kws X.env)).any (·.1.isNone)) = false := by rfl)
    (ht : eval (.Call (.Attribute o m apos) (e :: es) kws pos) X.env = (do
      let ov ← eval o X.env
      standAt apos.atName
      let (f, first) ← holding [ov] (getMethod ov m pl)
      callWith pos f first (backTo pos (starEach (e :: es) X.env)) (backToKw pos (keywordEach kws X.env))) := by rfl) :
    PE X (.Call (.Attribute o m apos) (e :: es) kws pos) (tMethN C m n ks.length sp gV E ta t tk) := by
  refine ⟨fun pins s σ H Q I h => ?_⟩
  refine PySem.W.methodCall_KW (pl := pl) (thn (he.run pins s σ H _ I h) fun u s1 ⟨x, H1, I1, rx, a, dx, fs, ex, ea, l, q⟩ => ?_) ht
  subst ex
  obtain rfl : u = Value.ref a := rx
  refine getmeth_ok I1 ea c hm l ?_
  refine PySem.W.callWith_KW (first := [.ref a]) (h₀ := X.base) I.ok.mod.kin hm.kp hall (thn (ha.run pos pins s1 σ H1 _ I1 q) fun us s2 ⟨vs, H2, I2, r, q2⟩ => ?_) hpl hst
  refine thn (hkw.run pos pins s2 σ H2 _ I2 q2) fun ws s3 ⟨zs, H3, I3, rz, l1, l2, q3⟩ => ⟨I3.kIn, ?_⟩
  rw [hks]
  exact run_fnN (us := .ref a :: us) (vs := .ref a :: vs) F hr hb hx I3 (.cons rfl r) rz l1 l2 q3
end
/-- o[i] of a dict, by values -/
def gtD : V → V → Hp → VK → Prop := fun o i H Q => ∃ a v, o = .ref a ∧ DGet H a i (some v) ∧ Q v H
theorem pget_dict {X : Cx} (hu : X.A.units + 1 < cLine) : PGet X gtD := by
  intro pins s σ H o i ov iv Q I ro ri h
  obtain ⟨a, v, eo, g, q⟩ := h
  subst eo
  obtain rfl : ov = Value.ref a := ro
  exact d_getItem hu I g ri fun w' s3 I3 rw' => ⟨v, H, I3, rw', q⟩
theorem vals_app {vs : List V} {us : List Value} {zs : List V} {ws : List Value} (r : Vals vs us) (q : Vals zs ws) : Vals (vs ++ zs) (us ++ ws) := r.append q
/-- a def with one keyword-only default d, named m -/
theorem funD_fun {K : PySem.W.Frag} {x qual : Str} {st : Stmt} {f : Addr} {fd : FuncData} {kws : List (Str × V)} (F : FunD K x qual (defArgs st) (defBody st) (defScope st) [] kws f fd) : Fun K x qual st f fd := by
  obtain ⟨oc, od, dV, kV, doc, pm, an, cdv, ct, osl, e, lk, hcd, hD, hK⟩ := F.ex
  rcases hD with ⟨_, rfl⟩ | ⟨e, _⟩
  · exact ⟨⟨oc, od, kV, doc, pm, an, cdv, ct, osl, e, lk, hcd⟩, F.kp⟩
  · exact absurd rfl e
end OwX


namespace OwW
open PySem PyProof.Rows L2 L2H OwX Rd Evl
abbrev sNeedM : Stmt := top 41
abbrev sIsPlan : Stmt := top 33
abbrev sNeedPl : Stmt := top 40
abbrev sLent : Stmt := mth 32 10
abbrev NLe : List Str := ["self", "place", "many", "other"]
/-- _need_many where it is an integer -/
def spNeedM : Sp := fun vs H Q _ => ∃ i : Int, vs = [.int i] ∧ i.natAbs < 10 ^ 60 ∧ ∀ H', Ex H H' → Q .non H'
/-- _need_plan where it is one -/
def spNeedPl (C : Addr) : Sp := fun vs H Q _ => ∃ (wb m : Addr) (ks : List Str) (ys : TL) (f : Str → Int), vs = [.ref wb, .ref m] ∧ IsWeb C H wb ks ys ∧ Nums H m ks f ∧ ∀ H', Ex H H' → Q .non H'
/-- so many at one place, 0 elsewhere -/
def oneF (x : Str) (n : Int) (o : Str) : Int := if o = x then n else 0
def spLent (CW CD : Addr) : Sp := fun vs H Q _ => ∃ (a wb : Addr) (x : Str) (n : Int) (ks : List Str) (ys : TL) (am : Str → Int), vs = [.ref a, .str x, .int n] ∧ IsDebts CW CD H a wb ks ys am ∧ x ∈ ks ∧ n.natAbs < 10 ^ 60 ∧
  ∀ b H', Ex H H' → IsDebts CW CD H' b wb ks ys (lentF (ys.map (·.2)) am (oneF x n)) → H b = none → Q (.ref b) H'
theorem none_ex {H H' : Hp} {b : Addr} (e : Ex H H') (h : H' b = none) : H b = none := by
  cases c : H b with
  | none => rfl
  | some o =>
    have z := e _ _ c
    rw [h] at z
    exact nomatch z
section
variable {P : Program} {w : World} {K : PySem.W.Frag} {mg : Str → Option Value} {base : Heap}
theorem scNeedM : FnScope ["many"] ["many"] (defScope sNeedM) := ⟨rfl, rfl, rfl, by decide +kernel, rfl, by decide +kernel, by decide +kernel⟩
theorem ok_needm {f gi : Addr} {fd gid : FuncData} (F : Fun K "_need_many" "_need_many" sNeedM f fd) (FI : Fun K "is_integer" "is_integer" sInteger gi gid) (gI : mg "is_integer" = some (.ref gi)) (GI : FnOk P w K mg base CX0 2 gi gid ["value"] (spB integerD)) : FnOk P w K mg base CX0 3 f fd ["many"] spNeedM := by
  have nd := scNeedM.nd
  have bI : Binds K gid ["value"] [] := FI.binds fun _ _ _ _ _ _ us hl => match us, hl with | [_], _ => rfl
  refine F.ok scNeedM (fun vs H Q E h => ?_) (fun cdv A outer s H vs Q E hr h => ⟨_, (pss_one (ps_if (pt_not (pt_val (pe_call GI (hr.mono (by decide)) (by rfl) gI FI.kp bI .nil pass0 (pa_cons (pv 0) pa_nil)) (fun _ => rfl))) pss_dead pss_nil)), ?_⟩)
  · obtain ⟨i, rfl, _⟩ := h
    rfl
  · obtain ⟨i, rfl, hi, k⟩ := h
    walk_at "rd"
    refine ⟨.int i, .int i, rfl, .int i, fun H1 e1 => ⟨_, rfl, ?_⟩⟩
    have z : integerD (.int i) = true := decide_eq_true hi
    rw [z]
    refine Rd.iteF (by decide) ?_
    exact k H1 e1
theorem scIsPlan : FnScope ["web", "value"] ["web", "value"] (defScope sIsPlan) := ⟨rfl, rfl, rfl, by decide +kernel, rfl, by decide +kernel, by decide +kernel⟩
theorem ok_isplan {f g gn C : Addr} {fd gd gnd : FuncData} (F : Fun K "is_plan" "is_plan" sIsPlan f fd) (FW : Fun K "need_web" "need_web" sNeedW g gd) (gW : mg "need_web" = some (.ref g)) (GW : FnOk P w K mg base CX0 1 g gd ["web"] (spNeedW C))
    (FN : Fun K "_are_numbers" "_are_numbers" sNumbers gn gnd) (gN : mg "_are_numbers" = some (.ref gn)) (GN : FnOk P w K mg base CX0 3 gn gnd ["web", "value"] (spNumbers K C)) : FnOk P w K mg base CX0 4 f fd ["web", "value"] (spNumbers K C) := by
  have nd := scIsPlan.nd
  have bW : Binds K gd ["web"] [] := FW.binds fun _ _ _ _ _ _ us hl => match us, hl with | [_], _ => rfl
  have bN : Binds K gnd ["web", "value"] [] := FN.binds fun _ _ _ _ _ _ us hl => match us, hl with | [_, _], _ => rfl
  refine F.ok scIsPlan (fun vs H Q E h => ?_) (fun cdv A outer s H vs Q E hr h => ⟨_, (pss_cons (ps_expr (pe_call GW (hr.mono (by decide)) (by rfl) gW FW.kp bW .nil pass0 (pa_cons (pv 0) pa_nil)))
    (pss_one (ps_ret (pe_call GN (hr.mono (by decide)) (by rfl) gN FN.kp bN .nil pass0 (pa_cons (pv 0) (pa_cons (pv 1) pa_nil)))))), ?_⟩)
  · obtain ⟨wb, vv, ks, ys, rfl, _⟩ := h
    rfl
  · obtain ⟨wb, vv, ks, ys, rfl, hw, h⟩ := h
    walk_at "rd"
    refine ⟨wb, ks, ys, rfl, hw, ?_⟩
    walk_at "rd"
    exact ⟨wb, vv, ks, ys, rfl, hw, h⟩
theorem scNeedPl : FnScope ["web", "plan"] ["web", "plan"] (defScope sNeedPl) := ⟨rfl, rfl, rfl, by decide +kernel, rfl, by decide +kernel, by decide +kernel⟩
theorem ok_needpl {f gn C : Addr} {fd gnd : FuncData} (F : Fun K "_need_plan" "_need_plan" sNeedPl f fd) (FN : Fun K "is_plan" "is_plan" sIsPlan gn gnd) (gN : mg "is_plan" = some (.ref gn)) (GN : FnOk P w K mg base CX0 4 gn gnd ["web", "value"] (spNumbers K C)) : FnOk P w K mg base CX0 5 f fd ["web", "plan"] (spNeedPl C) := by
  have nd := scNeedPl.nd
  have bN : Binds K gnd ["web", "value"] [] := FN.binds fun _ _ _ _ _ _ us hl => match us, hl with | [_, _], _ => rfl
  refine F.ok scNeedPl (fun vs H Q E h => ?_) (fun cdv A outer s H vs Q E hr h => ⟨_, (pss_one (ps_if (pt_not (pt_val (pe_call GN (hr.mono (by decide)) (by rfl) gN FN.kp bN .nil pass0 (pa_cons (pv 0) (pa_cons (pv 1) pa_nil))) (fun _ => rfl))) pss_dead pss_nil)), ?_⟩)
  · obtain ⟨wb, m, ks, ys, fn, rfl, _⟩ := h
    rfl
  · obtain ⟨wb, m, ks, ys, fn, rfl, hw, hn, k⟩ := h
    obtain ⟨kvs, m1, kz, jb, vals, nums⟩ := hn.at_
    obtain ⟨ds, dh, di⟩ := nums_data (H := wo m H) nums
    walk_at "rd"
    refine ⟨wb, .ref m, ks, ys, rfl, hw, Or.inr ⟨m, kvs, ds, rfl, m1, kz, dh, fun H1 e1 => ⟨_, rfl, ?_⟩⟩⟩
    rw [jb, di]
    refine Rd.iteF (by decide) ?_
    exact k H1 e1
theorem scLent : FnScope NLe ["self", "place", "many"] (defScope sLent) := ⟨rfl, rfl, rfl, by decide +kernel, rfl, by decide +kernel, by decide +kernel⟩
theorem ok_lent {f g gm gl gp CW CD pp : Addr} {fd gd gmd gld gpd : FuncData} (F : Fun K "lent" "Debts.lent" sLent f fd) (FN : Fun K "need_place" "need_place" sNeedP g gd) (gN : mg "need_place" = some (.ref g)) (GN : FnOk P w K mg base CX0 3 g gd ["web", "place"] (spNeedP CW))
    (FM : Fun K "_need_many" "_need_many" sNeedM gm gmd) (gM : mg "_need_many" = some (.ref gm)) (GM : FnOk P w K mg base CX0 3 gm gmd ["many"] spNeedM) (FL : Fun K "lent_by" "lent_by" sLentBy gl gld) (gL : mg "lent_by" = some (.ref gl)) (GL : FnOk P w K mg base CX0 7 gl gld ["debts", "plan"] (spLentBy CW CD))
    (FP : Fun K "places" "Web.places" sWPlaces gp gpd) (PP : PropOf K CW "places" pp gp) (GP : FnOk P w K mg base CX0 1 gp gpd ["self"] (spWPlaces CW)) (WK : WebK K CW) (DK : DebtsK K CD) : FnOk P w K mg base CX0 8 f fd ["self", "place", "many"] (spLent CW CD) := by
  have nd := scLent.nd
  have bP : Binds K gpd ["self"] [] := FP.binds fun _ _ _ _ _ _ us hl => match us, hl with | [_], _ => rfl
  have bN : Binds K gd ["web", "place"] [] := FN.binds fun _ _ _ _ _ _ us hl => match us, hl with | [_, _], _ => rfl
  have bM : Binds K gmd ["many"] [] := FM.binds fun _ _ _ _ _ _ us hl => match us, hl with | [_], _ => rfl
  have bL : Binds K gld ["debts", "plan"] [] := FL.binds fun _ _ _ _ _ _ us hl => match us, hl with | [_, _], _ => rfl
  refine F.ok scLent (fun vs H Q E h => ?_) (fun cdv A outer s H vs Q E hr h => ⟨_, (pss_cons (ps_expr (pe_call GN (hr.mono (by decide)) (by rfl) gN FN.kp bN .nil pass0 (pa_cons (pe_fld (pv 0) rfl) (pa_cons (pv 1) pa_nil))))
    (pss_cons (ps_expr (pe_call GM (hr.mono (by decide)) (by rfl) gM FM.kp bM .nil pass0 (pa_cons (pv 2) pa_nil)))
    (pss_one (ps_ret (pe_call GL (hr.mono (by decide)) (by rfl) gL FL.kp bL .nil pass0 (pa_cons (pv 0) (pa_cons (pe_dc (own := [("other", 3)]) (g := gName 3) (tt := tYes) rfl nd (pi_tup (pe_prop (pe_fld (pv 0) rfl) WK.cls PP GP (hr.mono (by decide)) bP .nil pass0 rfl)) (blkOk_by (own := [("other", 3)]) (N := NLe) (sc := defScope sLent) (by decide +kernel)) (fun _ _ _ _ _ => (pg_name (i := 3) nd rfl (Or.inl rfl))) (fun _ _ _ _ _ => pts_nil) (fun _ _ _ _ _ => (pv 3)) (fun _ _ _ _ _ => (pe_ifExp (pt_cmpR op_eq (pv 3) (pv 1) (nomark _)) (pv 2) pe_int))) pa_nil))))))), ?_⟩)
  · obtain ⟨a, wb, x, n, ks, ys, am, rfl, _⟩ := h
    rfl
  · obtain ⟨a, wb, x, n, ks, ys, am, rfl, db, hx, hn, k⟩ := h
    have k9 := db.web.ok.nine
    have kas := db.web.ok.asc
    obtain ⟨dx, nn, h1, h2⟩ := db.at_
    obtain ⟨dy, p, q, nw, nl, w1, wa, w3, w4, w5⟩ := db.web.at_
    walk_at "rd"
    unfold tFld
    walk_at "rd"
    refine ⟨a, CD, dx, _, .ref wb, rfl, h1, DK.cls, DK.nw, rfl, ?_⟩
    walk_at "rd"
    refine ⟨wb, ks, ys, x, rfl, db.web, hx, ?_⟩
    walk_at "rd"
    refine ⟨n, rfl, hn, fun H1 e1 => ?_⟩
    walk_at "rd"
    unfold tDc iTup tProp
    walk_at "rd"
    refine ⟨a, CD, dx, _, .ref wb, rfl, e1 _ _ h1, DK.cls, DK.nw, rfl, ?_⟩
    refine ⟨wb, dy, _, rfl, e1 _ _ w1, wb, ks, ys, rfl, db.web.ex e1, fun p' hp' => ?_⟩
    refine ⟨p', rfl, ⟨_, SqT.of hp'⟩, fun D hD => ?_⟩
    refine dc_tup (xs := ks.map V.str) (fun i H4 => Ex H1 H4 ∧ H4 D = some (.dK (amK (ks.take i) (oneF x n)))) ⟨Ex.new hD, upd_same⟩ (fun i H4 _ hP => SqT.of (hP.1 _ _ hp')) (fun i z H4 hz hP => ?_) (fun H4 hP => ?_)
    · obtain ⟨e4, hn4⟩ := hP
      rw [List.getElem?_map] at hz
      cases hb : ks[i]? with
      | none => rw [hb] at hz; exact nomatch hz
      | some b =>
        rw [hb] at hz
        cases hz
        show _ ∧ _
        refine ⟨rfl, ?_⟩
        unfold tYes
        show (if (true : Bool) = true then _ else _)
        rw [if_pos rfl]
        walk_at "rd"
        have ev : decide (V.str b = V.str x) = decide (b = x) := by by_cases c : b = x <;> simp [c]
        refine ⟨rfl, _, rfl, ?_⟩
        rw [ev]
        have z := take_step (f := oneF x n) kas hb
        by_cases c : b = x
        · rw [decide_eq_true c]
          rw [show oneF x n b = n from if_pos c] at z
          refine Rd.iteT rfl ?_
          walk_at "rd"
          refine ⟨amK (ks.take i) (oneF x n), Sum.inr b, rfl, hn4, sz_lt (by unfold amK; rw [List.length_map, List.length_take]; omega), e4.mut hD, ?_⟩
          rw [z, upd_same]
        · rw [decide_eq_false c]
          rw [show oneF x n b = 0 from if_neg c] at z
          refine Rd.iteF (by decide) ?_
          walk_at "rd"
          refine ⟨amK (ks.take i) (oneF x n), Sum.inr b, rfl, hn4, sz_lt (by unfold amK; rw [List.length_map, List.length_take]; omega), e4.mut hD, ?_⟩
          rw [z, upd_same]
    · obtain ⟨e4, hn4⟩ := hP
      rw [List.length_map, List.take_length] at hn4
      walk_at "rd"
      refine ⟨a, wb, D, ks, ys, am, oneF x n, rfl, db.ex (e1.trans e4), ⟨_, hn4, fun k hk => amK_some hk⟩, fun b H5 e5 hb nb => ?_⟩
      exact k b H5 ((e1.trans e4).trans e5) hb (none_ex (e1.trans e4) nb)
end
end OwW


namespace OwW
open PySem PyProof.Rows L2 L2H OwX Rd Evl
abbrev sPlSet : Stmt := top 23
abbrev NPs : List Str := ["web", "value", "place"]
abbrev sLentT : Stmt := mth 32 11
abbrev NLt : List Str := ["self", "places", "place"]
/-- is_place_set where it is one -/
def spPlSet (CW : Addr) : Sp := fun vs H Q _ => ∃ (wb p : Addr) (ks es : List Str) (ys : TL), vs = [.ref wb, .ref p] ∧ IsWeb CW H wb ks ys ∧ H p = some (.tup (es.map V.str)) ∧ es.length ≤ 9 ∧ (∀ e ∈ es, e ∈ ks) ∧ es.Pairwise (fun a b => OwL2.lt a b = true) ∧ ∀ H', Ex H H' → Q (.bl true) H'
/-- 1 at some places -/
def setF (es : List Str) (o : Str) : Int := if o ∈ es then 1 else 0
def spLentT (CW CD : Addr) : Sp := fun vs H Q _ => ∃ (a wb p : Addr) (ks es : List Str) (ys : TL) (am : Str → Int), vs = [.ref a, .ref p] ∧ IsDebts CW CD H a wb ks ys am ∧ H p = some (.tup (es.map V.str)) ∧ es.length ≤ 9 ∧ (∀ e ∈ es, e ∈ ks) ∧ es.Pairwise (fun a b => OwL2.lt a b = true) ∧
  ∀ b H', Ex H H' → IsDebts CW CD H' b wb ks ys (lentF (ys.map (·.2)) am (setF es)) → H b = none → Q (.ref b) H'
theorem in_strs' (x : Str) (ks : List Str) : inV (.str x) (ks.map V.str) = decide (x ∈ ks) := by
  by_cases c : x ∈ ks
  · rw [in_strs c, decide_eq_true c]
  · rw [decide_eq_false c]
    unfold inV
    rw [List.any_eq_false]
    intro v hv
    obtain ⟨k, hk, rfl⟩ := List.mem_map.mp hv
    show ¬ ((k == x) = true)
    intro e
    exact c (by rw [← beq_iff_eq.mp e]; exact hk)
section
variable {P : Program} {w : World} {K : PySem.W.Frag} {mg : Str → Option Value} {base : Heap}
theorem scPlSet : FnScope NPs ["web", "value"] (defScope sPlSet) := ⟨rfl, rfl, rfl, by decide +kernel, rfl, by decide +kernel, by decide +kernel⟩
theorem ok_plset {f l gp CW pp : Addr} {fd ld gpd : FuncData} (F : Fun K "is_place_set" "is_place_set" sPlSet f fd) (FA : Fun K "ascends" "ascends" sAsc l ld) (gA : mg "ascends" = some (.ref l)) (GA : FnOk P w K mg base CX0 1 l ld ["row"] spAsc)
    (FP : Fun K "places" "Web.places" sWPlaces gp gpd) (PP : PropOf K CW "places" pp gp) (GP : FnOk P w K mg base CX0 1 gp gpd ["self"] (spWPlaces CW)) (WK : WebK K CW) (T : BltB mg) : FnOk P w K mg base CX0 3 f fd ["web", "value"] (spPlSet CW) := by
  have nd := scPlSet.nd
  have bP : Binds K gpd ["self"] [] := FP.binds fun _ _ _ _ _ _ us hl => match us, hl with | [_], _ => rfl
  have bA : Binds K ld ["row"] [] := FA.binds fun _ _ _ _ _ _ us hl => match us, hl with | [_], _ => rfl
  refine F.ok scPlSet (fun vs H Q E h => ?_) (fun cdv A outer s H vs Q E hr h => ⟨_, (pss_cons (ps_if ((pw_or (pt_not (pt_val (pe_callB call_isi (by rfl) T.isinst (by decide +kernel) (pa_cons (pv 1) (pa_cons (pe_bltn (v := .ty "tuple") (by rfl) T.tuple (by decide +kernel) rfl) pa_nil))) (fun _ => rfl))) (pw_or1 (pt_not (pt_val (pe_callB (cr_all rfl) (by rfl) T.all (by decide +kernel) (pa_cons (pe_lc (own := [("place", 2)]) (g := gName 2) (tt := tYes) (te := tOp (rIn K false) (tVar 2) (tProp CW (spWPlaces CW) [] E0 (tVar 0))) rfl nd (pi_tup (pv 1)) (blkOk_by (own := [("place", 2)]) (N := NPs) (sc := defScope sPlSet) (by decide +kernel)) (fun _ _ _ _ _ => (pg_name (i := 2) nd rfl (Or.inl rfl))) (fun _ _ _ _ _ => pts_nil) (fun _ _ _ _ _ => (pe_cmpR op_in_seq (pv 2) (pe_prop (pv 0) WK.cls PP GP (hr.mono (by decide)) bP .nil pass0 rfl) (by with_unfolding_all rfl)))) pa_nil)) (fun _ => rfl)))))).pt (pss_one (ps_ret pe_bl)) pss_nil)
    (pss_one (ps_ret (pe_call GA (hr.mono (by decide)) (by rfl) gA FA.kp bA .nil pass0 (pa_cons (pv 1) pa_nil))))), ?_⟩)
  · obtain ⟨wb, p, ks, es, ys, rfl, _⟩ := h
    rfl
  · obtain ⟨wb, p, ks, es, ys, rfl, hw, hp, e9, sub, asc, k⟩ := h
    have nam : ∀ e ∈ es, nameB e = true := fun e he => hw.ok.names _ (sub e he)
    obtain ⟨dy, p0, q, nw, nl, w1, wa, w3, w4, w5⟩ := hw.at_
    walk_at "rd"
    refine Rd.isi (.tup hp (by rw [List.length_map]; omega) (dhS nam)) (by decide) ⟨_, rfl, ?_⟩
    refine Rd.iteF (by simp [isD, tyD]) ?_
    walk_at "rd"
    refine Rd.lcm' ?_
    refine ⟨_, rfl, p, rfl, ⟨_, SqT.of hp⟩, fun D hD => ?_⟩
    refine Rd.lc_mapG (walk_tup (xs := es.map V.str)) (fun _ => V.bl true) hD (by rw [List.length_map]; omega) (fun H' e => ex_t e (SqT.of hp)) (fun i y Ha Hb R hi ea y1 hR => ?_) (fun H2 e2 h2 => ?_)
    · obtain ⟨rfl, y2⟩ := y1
      rw [List.getElem?_map] at y2
      obtain ⟨b, hb, rfl⟩ := Option.map_eq_some_iff.mp y2
      have bm := List.mem_of_getElem? hb
      show _ ∧ _
      refine ⟨rfl, ?_⟩
      unfold tOp tProp
      walk_at "rd"
      refine ⟨wb, dy, _, rfl, ea _ _ w1, wb, ks, ys, rfl, hw.ex ea, fun p' hp' => ?_⟩
      refine ⟨p', _, rfl, Or.inr (SqT.of hp'), rfl, flat_strs ks, ?_⟩
      have z : (if false = true then !inV (.str b) (ks.map V.str) else inV (.str b) (ks.map V.str)) = true := by
        rw [if_neg (by decide), in_strs (sub b bm)]
      rw [z]
      exact hR Hb (Ex.refl _)
    · walk_at "rd"
      rw [bls _ (fun _ => true)] at h2
      refine ⟨_, _, rfl, SqL.of h2, ?_⟩
      have al : ((List.range (es.map V.str).length).map fun _ => true).all id = true := by simp
      rw [al]
      refine ⟨_, rfl, ?_⟩
      refine Rd.iteF (by decide) ?_
      walk_at "rd"
      refine ⟨p, rfl, Or.inl ⟨es, e2 _ _ hp, by omega, fun H3 e3 => ?_⟩⟩
      rw [ascB_of (r := OwL2.lt) asc]
      exact k H3 (e2.trans e3)
theorem scLentT : FnScope NLt ["self", "places"] (defScope sLentT) := ⟨rfl, rfl, rfl, by decide +kernel, rfl, by decide +kernel, by decide +kernel⟩
theorem ok_lentt {f g gl gp CW CD pp : Addr} {fd gd gld gpd : FuncData} (F : Fun K "lent_together" "Debts.lent_together" sLentT f fd) (FN : Fun K "is_place_set" "is_place_set" sPlSet g gd) (gN : mg "is_place_set" = some (.ref g)) (GN : FnOk P w K mg base CX0 3 g gd ["web", "value"] (spPlSet CW))
    (FL : Fun K "lent_by" "lent_by" sLentBy gl gld) (gL : mg "lent_by" = some (.ref gl)) (GL : FnOk P w K mg base CX0 7 gl gld ["debts", "plan"] (spLentBy CW CD))
    (FP : Fun K "places" "Web.places" sWPlaces gp gpd) (PP : PropOf K CW "places" pp gp) (GP : FnOk P w K mg base CX0 1 gp gpd ["self"] (spWPlaces CW)) (WK : WebK K CW) (DK : DebtsK K CD) : FnOk P w K mg base CX0 8 f fd ["self", "places"] (spLentT CW CD) := by
  have nd := scLentT.nd
  have bP : Binds K gpd ["self"] [] := FP.binds fun _ _ _ _ _ _ us hl => match us, hl with | [_], _ => rfl
  have bN : Binds K gd ["web", "value"] [] := FN.binds fun _ _ _ _ _ _ us hl => match us, hl with | [_, _], _ => rfl
  have bL : Binds K gld ["debts", "plan"] [] := FL.binds fun _ _ _ _ _ _ us hl => match us, hl with | [_, _], _ => rfl
  refine F.ok scLentT (fun vs H Q E h => ?_) (fun cdv A outer s H vs Q E hr h => ⟨_, (pss_cons (ps_if (pt_not (pt_val (pe_call GN (hr.mono (by decide)) (by rfl) gN FN.kp bN .nil pass0 (pa_cons (pe_fld (pv 0) rfl) (pa_cons (pv 1) pa_nil))) (fun _ => rfl))) pss_dead pss_nil)
    (pss_one (ps_ret (pe_call GL (hr.mono (by decide)) (by rfl) gL FL.kp bL .nil pass0 (pa_cons (pv 0) (pa_cons (pe_dc (own := [("place", 2)]) (g := gName 2) (tt := tYes) (tv := tIf (tTest (tOp (rIn K false) (tVar 2) (tVar 1))) (tC (.int 1)) (tC (.int 0))) rfl nd (pi_tup (pe_prop (pe_fld (pv 0) rfl) WK.cls PP GP (hr.mono (by decide)) bP .nil pass0 rfl)) (blkOk_by (own := [("place", 2)]) (N := NLt) (sc := defScope sLentT) (by decide +kernel)) (fun _ _ _ _ _ => (pg_name (i := 2) nd rfl (Or.inl rfl))) (fun _ _ _ _ _ => pts_nil) (fun _ _ _ _ _ => (pv 2)) (fun _ _ _ _ _ => (pe_ifExp (pt_cmpR op_in_seq (pv 2) (pv 1) (by with_unfolding_all rfl)) pe_int pe_int))) pa_nil)))))), ?_⟩)
  · obtain ⟨a, wb, p, ks, es, ys, am, rfl, _⟩ := h
    rfl
  · obtain ⟨a, wb, p, ks, es, ys, am, rfl, db, hp, e9, sub, asc, k⟩ := h
    have k9 := db.web.ok.nine
    have kas := db.web.ok.asc
    obtain ⟨dx, nn, h1, h2⟩ := db.at_
    obtain ⟨dy, p0, q, nw, nl, w1, wa, w3, w4, w5⟩ := db.web.at_
    walk_at "rd"
    unfold tFld
    walk_at "rd"
    refine ⟨a, CD, dx, _, .ref wb, rfl, h1, DK.cls, DK.nw, rfl, ?_⟩
    walk_at "rd"
    refine ⟨wb, p, ks, es, ys, rfl, db.web, hp, e9, sub, asc, fun H1 e1 => ⟨_, rfl, ?_⟩⟩
    refine Rd.iteF (by decide) ?_
    walk_at "rd"
    unfold tDc iTup tProp
    walk_at "rd"
    refine ⟨a, CD, dx, _, .ref wb, rfl, e1 _ _ h1, DK.cls, DK.nw, rfl, ?_⟩
    refine ⟨wb, dy, _, rfl, e1 _ _ w1, wb, ks, ys, rfl, db.web.ex e1, fun p' hp' => ?_⟩
    refine ⟨p', rfl, ⟨_, SqT.of hp'⟩, fun D hD => ?_⟩
    refine dc_tup (xs := ks.map V.str) (fun i H4 => Ex H1 H4 ∧ H4 D = some (.dK (amK (ks.take i) (setF es)))) ⟨Ex.new hD, upd_same⟩ (fun i H4 _ hP => SqT.of (hP.1 _ _ hp')) (fun i z H4 hz hP => ?_) (fun H4 hP => ?_)
    · obtain ⟨e4, hn4⟩ := hP
      rw [List.getElem?_map] at hz
      cases hb : ks[i]? with
      | none => rw [hb] at hz; exact nomatch hz
      | some b =>
        rw [hb] at hz
        cases hz
        show _ ∧ _
        refine ⟨rfl, ?_⟩
        unfold tYes
        show (if (true : Bool) = true then _ else _)
        rw [if_pos rfl]
        walk_at "rd"
        refine ⟨p, _, rfl, Or.inr (SqT.of (e4 _ _ (e1 _ _ hp))), rfl, flat_strs es, ?_⟩
        rw [if_neg (by decide), in_strs']
        refine ⟨_, rfl, ?_⟩
        have z := take_step (f := setF es) kas hb
        by_cases c : b ∈ es
        · rw [decide_eq_true c]
          rw [show setF es b = 1 from if_pos c] at z
          refine Rd.iteT rfl ?_
          walk_at "rd"
          refine ⟨amK (ks.take i) (setF es), Sum.inr b, rfl, hn4, sz_lt (by unfold amK; rw [List.length_map, List.length_take]; omega), e4.mut hD, ?_⟩
          rw [z, upd_same]
        · rw [decide_eq_false c]
          rw [show setF es b = 0 from if_neg c] at z
          refine Rd.iteF (by decide) ?_
          walk_at "rd"
          refine ⟨amK (ks.take i) (setF es), Sum.inr b, rfl, hn4, sz_lt (by unfold amK; rw [List.length_map, List.length_take]; omega), e4.mut hD, ?_⟩
          rw [z, upd_same]
    · obtain ⟨e4, hn4⟩ := hP
      rw [List.length_map, List.take_length] at hn4
      walk_at "rd"
      refine ⟨a, wb, D, ks, ys, am, setF es, rfl, db.ex (e1.trans e4), ⟨_, hn4, fun k hk => amK_some hk⟩, fun b H5 e5 hb nb => ?_⟩
      exact k b H5 ((e1.trans e4).trans e5) hb (none_ex (e1.trans e4) nb)
end
end OwW


namespace OwW
open PySem PyProof.Rows L2 L2H OwX Rd Evl
abbrev sMoved : Stmt := mth 32 12
abbrev NMo : List Str := ["self", "giver", "taker", "many", "amounts"]
abbrev sAfter : Stmt := mth 32 13
/-- one value changed -/
def updF (f : Str → Int) (x : Str) (v : Int) (o : Str) : Int := if o = x then v else f o
theorem amK_put {f : Str → Int} {x : Str} {v : Int} {ks : List Str} (h : x ∈ ks) : putK (amK ks f) (Sum.inr x) (.int v) = amK ks (updF f x v) := by
  have a : ((amK ks f).any fun kv => decide (kv.1 = Sum.inr x)) = true := by
    rw [valV_any, amK_some h]
    rfl
  unfold putK
  rw [if_pos a]
  unfold amK
  rw [List.map_map]
  refine List.map_congr_left fun o _ => ?_
  unfold updF
  by_cases c : o = x
  · rw [if_pos c]
    show (if (Sum.inr o : Key) = Sum.inr x then _ else _) = _
    rw [if_pos (by rw [c])]
  · rw [if_neg c]
    show (if (Sum.inr o : Key) = Sum.inr x then _ else _) = _
    rw [if_neg (fun e => c (Sum.inr.inj e))]
theorem asc_nodup {ks : List Str} (h : ks.Pairwise (fun a b => OwL2.lt a b = true)) : ks.Nodup := h.imp fun {a b} z e => by
  rw [e, lt_irr] at z
  exact nomatch z
/-- so many less at x, more at y -/
def movF (am : Str → Int) (x y : Str) (n : Int) : Str → Int := updF (updF am x (am x - n)) y (updF am x (am x - n) y + n)
def spMoved (CW CD : Addr) : Sp := fun vs H Q _ => ∃ (a wb : Addr) (x y : Str) (n : Int) (ks : List Str) (ys : TL) (am : Str → Int), vs = [.ref a, .str x, .str y, .int n] ∧ IsDebts CW CD H a wb ks ys am ∧ x ∈ ks ∧ y ∈ ks ∧ n.natAbs < 10 ^ 60 ∧
  ∀ b H', Ex H H' → IsDebts CW CD H' b wb ks ys (movF am x y n) → H b = none → Q (.ref b) H'
def spAfter (CW CD : Addr) : Sp := fun vs H Q _ => ∃ (a wb m : Addr) (ks : List Str) (ys : TL) (am pl : Str → Int), vs = [.ref a, .ref m] ∧ IsDebts CW CD H a wb ks ys am ∧ Nums H m ks pl ∧
  ∀ b H', Ex H H' → IsDebts CW CD H' b wb ks ys (lentF (ys.map (·.2)) am pl) → H b = none → Q (.ref b) H'
theorem Nums.has {H : Hp} {m : Addr} {ks : List Str} {f : Str → Int} (n : Nums H m ks f) : Has H m ks f := by
  obtain ⟨kvs, h, _, _, v, _⟩ := n.at_
  exact ⟨kvs, h, v⟩
theorem Has.ex {H H' : Hp} {m : Addr} {ks : List Str} {f : Str → Int} (n : Has H m ks f) (e : Ex H H') : Has H' m ks f := by
  obtain ⟨kvs, h, v⟩ := n
  exact ⟨kvs, e _ _ h, v⟩
section
variable {P : Program} {w : World} {K : PySem.W.Frag} {mg : Str → Option Value} {base : Heap}
theorem scMoved : FnScope NMo ["self", "giver", "taker", "many"] (defScope sMoved) := ⟨rfl, rfl, rfl, by decide +kernel, rfl, by decide +kernel, by decide +kernel⟩
theorem ok_moved {f g gm gl ga CW CD pa : Addr} {fd gd gmd gld gad : FuncData} (F : Fun K "moved" "Debts.moved" sMoved f fd) (FN : Fun K "need_place" "need_place" sNeedP g gd) (gN : mg "need_place" = some (.ref g)) (GN : FnOk P w K mg base CX0 3 g gd ["web", "place"] (spNeedP CW))
    (FM : Fun K "_need_many" "_need_many" sNeedM gm gmd) (gM : mg "_need_many" = some (.ref gm)) (GM : FnOk P w K mg base CX0 3 gm gmd ["many"] spNeedM) (FL : Fun K "made_debts" "made_debts" sMDebts gl gld) (gL : mg "made_debts" = some (.ref gl)) (GL : FnOk P w K mg base CX0 6 gl gld ["web", "amounts"] (spMDebts CW CD))
    (FA : Fun K "amounts" "Debts.amounts" sDAm ga gad) (PA' : PropOf K CD "amounts" pa ga) (GA : FnOk P w K mg base CX0 1 ga gad ["self"] (spDAm CW CD)) (DK : DebtsK K CD) : FnOk P w K mg base CX0 7 f fd ["self", "giver", "taker", "many"] (spMoved CW CD) := by
  have nd := scMoved.nd
  have bN : Binds K gd ["web", "place"] [] := FN.binds fun _ _ _ _ _ _ us hl => match us, hl with | [_, _], _ => rfl
  have bM : Binds K gmd ["many"] [] := FM.binds fun _ _ _ _ _ _ us hl => match us, hl with | [_], _ => rfl
  have bL : Binds K gld ["web", "amounts"] [] := FL.binds fun _ _ _ _ _ _ us hl => match us, hl with | [_, _], _ => rfl
  have bA : Binds K gad ["self"] [] := FA.binds fun _ _ _ _ _ _ us hl => match us, hl with | [_], _ => rfl
  refine F.ok scMoved (fun vs H Q E h => ?_) (fun cdv A outer s H vs Q E hr h => ⟨_, (pss_cons (ps_expr (pe_call GN (hr.mono (by decide)) (by rfl) gN FN.kp bN .nil pass0 (pa_cons (pe_fld (pv 0) rfl) (pa_cons (pv 1) pa_nil))))
    (pss_cons (ps_expr (pe_call GN (hr.mono (by decide)) (by rfl) gN FN.kp bN .nil pass0 (pa_cons (pe_fld (pv 0) rfl) (pa_cons (pv 2) pa_nil))))
    (pss_cons (ps_expr (pe_call GM (hr.mono (by decide)) (by rfl) gM FM.kp bM .nil pass0 (pa_cons (pv 3) pa_nil)))
    (pss_cons (ps_set (i := 4) nd rfl (Or.inl rfl) (pe_prop (pv 0) DK.cls PA' GA (hr.mono (by decide)) bA .nil pass0 rfl))
    (pss_cons (ps_augS (pv 4) (pv 1) (pget_dict (units1 hr)) (pv 3) ip_sub (L2.set_dict (units1 hr)))
    (pss_cons (ps_augS (pv 4) (pv 2) (pget_dict (units1 hr)) (pv 3) ip_add (L2.set_dict (units1 hr)))
    (pss_one (ps_ret (pe_call GL (hr.mono (by decide)) (by rfl) gL FL.kp bL .nil pass0 (pa_cons (pe_fld (pv 0) rfl) (pa_cons (pv 4) pa_nil))))))))))), ?_⟩)
  · obtain ⟨a, wb, x, y, n, ks, ys, am, rfl, _⟩ := h
    rfl
  · obtain ⟨a, wb, x, y, n, ks, ys, am, rfl, db, hx, hy, hn, k⟩ := h
    have k9 := db.web.ok.nine
    have nd0 := asc_nodup db.web.ok.asc
    obtain ⟨dx, nn, h1, h2⟩ := db.at_
    walk_at "rd"
    unfold tFld
    walk_at "rd"
    refine ⟨a, CD, dx, _, .ref wb, rfl, h1, DK.cls, DK.nw, rfl, ?_⟩
    walk_at "rd"
    refine ⟨wb, ks, ys, x, rfl, db.web, hx, ?_⟩
    walk_at "rd"
    refine ⟨a, CD, dx, _, .ref wb, rfl, h1, DK.cls, DK.nw, rfl, ?_⟩
    walk_at "rd"
    refine ⟨wb, ks, ys, y, rfl, db.web, hy, ?_⟩
    walk_at "rd"
    refine ⟨n, rfl, hn, fun H1 e1 => ?_⟩
    walk_at "rd"
    unfold tProp
    walk_at "rd"
    refine ⟨a, dx, _, rfl, e1 _ _ h1, a, wb, ks, ys, am, rfl, db.ex e1, fun p H2 e2 hp np => ?_⟩
    walk_at "rd"
    unfold tAugS gtD ipI rSetD
    walk_at "rd"
    have dg := DGet.k (k := Sum.inr x) hp
    rw [amK_some hx] at dg
    refine ⟨p, _, rfl, dg, ?_⟩
    walk_at "rd"
    refine ⟨_, _, rfl, rfl, p, _, rfl, DPut.k (k := Sum.inr x) hp (sz_lt (by unfold amK; rw [List.length_map]; omega)), ?_⟩
    rw [amK_put hx]
    have e3 : Ex H1 (upd H2 p (.dK (amK ks (updF am x (am x - n))))) := e2.mut np
    have p3 : (upd H2 p (.dK (amK ks (updF am x (am x - n))))) p = some (.dK (amK ks (updF am x (am x - n)))) := upd_same
    generalize upd H2 p (.dK (amK ks (updF am x (am x - n)))) = H3 at e3 p3 ⊢
    walk_at "rd"
    have dg3 := DGet.k (k := Sum.inr y) p3
    rw [amK_some hy] at dg3
    refine ⟨p, _, rfl, dg3, ?_⟩
    walk_at "rd"
    refine ⟨_, _, rfl, rfl, p, _, rfl, DPut.k (k := Sum.inr y) p3 (sz_lt (by unfold amK; rw [List.length_map]; omega)), ?_⟩
    rw [amK_put hy]
    have e4 : Ex H1 (upd H3 p (.dK (amK ks (movF am x y n)))) := e3.mut np
    have p4 : (upd H3 p (.dK (amK ks (movF am x y n)))) p = some (.dK (amK ks (movF am x y n))) := upd_same
    unfold movF at e4 p4 k
    show _
    dsimp only at e4 p4 ⊢
    generalize upd H3 p (.dK (amK ks (updF (updF am x (am x - n)) y (updF am x (am x - n) y + n)))) = H4 at e4 p4 ⊢
    walk_at "rd"
    have e14 := e1.trans e4
    refine ⟨a, CD, dx, _, .ref wb, rfl, e14 _ _ h1, DK.cls, DK.nw, rfl, ?_⟩
    walk_at "rd"
    exact ⟨wb, p, ks, ys, _, _, rfl, db.web.ex e14, p4, fun o ho => amK_some ho, fun b H5 e5 hb nb => k b H5 (e14.trans e5) hb (none_ex e14 nb)⟩
theorem scAfter : FnScope ["self", "plan"] ["self", "plan"] (defScope sAfter) := ⟨rfl, rfl, rfl, by decide +kernel, rfl, by decide +kernel, by decide +kernel⟩
theorem ok_after {f g gl CW CD : Addr} {fd gd gld : FuncData} (F : Fun K "after" "Debts.after" sAfter f fd) (FN : Fun K "_need_plan" "_need_plan" sNeedPl g gd) (gN : mg "_need_plan" = some (.ref g)) (GN : FnOk P w K mg base CX0 5 g gd ["web", "plan"] (spNeedPl CW))
    (FL : Fun K "lent_by" "lent_by" sLentBy gl gld) (gL : mg "lent_by" = some (.ref gl)) (GL : FnOk P w K mg base CX0 7 gl gld ["debts", "plan"] (spLentBy CW CD)) (DK : DebtsK K CD) : FnOk P w K mg base CX0 8 f fd ["self", "plan"] (spAfter CW CD) := by
  have nd := scAfter.nd
  have bN : Binds K gd ["web", "plan"] [] := FN.binds fun _ _ _ _ _ _ us hl => match us, hl with | [_, _], _ => rfl
  have bL : Binds K gld ["debts", "plan"] [] := FL.binds fun _ _ _ _ _ _ us hl => match us, hl with | [_, _], _ => rfl
  refine F.ok scAfter (fun vs H Q E h => ?_) (fun cdv A outer s H vs Q E hr h => ⟨_, (pss_cons (ps_expr (pe_call GN (hr.mono (by decide)) (by rfl) gN FN.kp bN .nil pass0 (pa_cons (pe_fld (pv 0) rfl) (pa_cons (pv 1) pa_nil))))
    (pss_one (ps_ret (pe_call GL (hr.mono (by decide)) (by rfl) gL FL.kp bL .nil pass0 (pa_cons (pv 0) (pa_cons (pv 1) pa_nil)))))), ?_⟩)
  · obtain ⟨a, wb, m, ks, ys, am, pl, rfl, _⟩ := h
    rfl
  · obtain ⟨a, wb, m, ks, ys, am, pl, rfl, db, hn, k⟩ := h
    obtain ⟨dx, nn, h1, h2⟩ := db.at_
    walk_at "rd"
    unfold tFld
    walk_at "rd"
    refine ⟨a, CD, dx, _, .ref wb, rfl, h1, DK.cls, DK.nw, rfl, ?_⟩
    walk_at "rd"
    refine ⟨wb, m, ks, ys, pl, rfl, db.web, hn, fun H1 e1 => ?_⟩
    walk_at "rd"
    refine ⟨a, wb, m, ks, ys, am, pl, rfl, db.ex e1, hn.has.ex e1, fun b H2 e2 hb nb => ?_⟩
    exact k b H2 (e1.trans e2) hb (none_ex e1 nb)
end
end OwW

namespace OwNe
open PySem PySem.W PySem.Spec PyProof.Rows Builtin
open Sem (wp)
section
variable {prog : Program} {w : World} {A : Around} {E : Value → Shared → Prop} {s : Shared} {h₀ : Heap} {L C x f : Addr} {m : Str → Option Value} {K : Frag} {ox : Obj} {od : Option Obj} {tb b : Value}
theorem ifBoundB_K {M : Model} {args : List Value} {Q : Option Value → Shared → Prop} {name : Str} {id : String} (X : K.In s.heap) (I : InstAt s.heap x ox C od) (hs : findIn K (.ref C) name = some (some (.builtin id))) (hb : bindSpecial (.builtin id) (.ref x) = pure (.builtin id, [.ref x]))
    (h : wpAny M A (call (.builtin id) (.ref x :: args)) (fun v => Q (some v)) E s) : wpAny M A (callSpecialIfBound? (.ref x) name args) Q E s := by
  simp only [callSpecialIfBound?, bindSpecialIfBound?]
  refine wpAny_holding (wpAny_bind (wpAny_bind (wpAny_bind (I.type.here ((looks_findIn X hs).here ?_)))))
  simp only [hb]
  refine wpAny_bind (wpAny_askSetting (wpAny_ite ?_))
  have fin : wpAny M A (call (.builtin id) ([.ref x] ++ args) >>= fun v => pure (some v)) Q E s := wpAny_bind (wpAny_mono h (fun v s' h' => wpAny_pure h') fun _ _ h' => h')
  split
  · exact wpAny_bind (wpAny_pure (wpAny_pure fin))
  · exact wpAny_tryCatch (wpAny_bind (wpAny_pure (wpAny_pure fin)))
theorem objNe_K (X : K.In s.heap) (I : InstAt s.heap x ox C od) (hs : findIn K (.ref C) "__eq__" = some (some (.ref f))) (hf : isFn K (.ref f) = true) (hu : A.units < cLine) {Q : Fin → Shared → Prop}
    (hcall : wpAny (model prog w) A (call (.ref f) [.ref x, b]) (fun v s' => ∃ b, v = .bool b ∧ Q (.done (.ret (.bool (!b)))) s') E s) :
    wpAny (model prog w) A (Builtin.«object.__ne__» ⟨[.ref x, b], []⟩) Q E s := by
  unfold Builtin.«object.__ne__»
  repeat (first
    | with_reducible refine wpAny_cRoomFor hu ?_
    | (refine wpAny_bind (m := callSpecialIfBound? (.ref x) (Str.ofString "__eq__") [b])
        (ifBound_K X I hs hf (wpAny_mono hcall (fun r s' hr => by
          obtain ⟨b, rfl, hq⟩ := hr
          repeat (first | exact hq | exact wpAny_pure hq | exact wpAny_truthy_bool hq | (refine wpAny_bind (m := truthy (.bool _)) (wpAny_truthy_bool ?_)) | wp_step)) fun _ _ e => e)))
    | wp_step)
theorem ne_K {Q : Value → Shared → Prop} (hu : A.units + 1 < cLine) (Fm : Fr h₀ L s.heap m) (X₀ : K.In h₀) (I : InstAt s.heap x ox C od) (hb : Looks (model prog w) s.heap (typeOf b) (.ref C)) (hn : findIn K (.ref C) "__ne__" = some (some (.builtin "object.__ne__")))
    (hos : subIn K (.ref C) (.type "object") = some true) (hs : findIn K (.ref C) "__eq__" = some (some (.ref f))) (hf : isFn K (.ref f) = true)
    (h : wpAny (model prog w) A.in1 (call (.ref f) [.ref x, b]) (NeBack Q) E s) : wpAny (model prog w) A (richCompare .NotEq (.ref x) b) Q E s := by
  have X := X₀.keeps Fm.keep
  have FB : CmpFacts "object" [.type "object"] := PySem.F.cmp_object
  have one : wpAny (model prog w) A (tryCompare (.ref x) "__ne__" b) (fun r s' => ∃ v, r = some v ∧ Q v s') E s := by
    simp only [tryCompare]
    refine wpAny_bind (ifBoundB_K X I hn (FB.ne.bind _) (wpAny_call (codeAny_call_builtin FB.ne.plain F.cmpEntry_ne ?_)))
    refine check_slot F.cmpKind_ne F.cmpSplit_ne (I.type.andThen (looks_subIn X hos)) (F.cmpArgs_ne _ _) ?_
    refine objNe_K (A := A.in1) X I hs hf hu (wpAny_mono h (fun v s' hv => ?_) fun _ _ e => e)
    obtain ⟨b, rfl, hq⟩ := hv
    exact ⟨b, rfl, wpAny_pure ⟨_, rfl, hq⟩⟩
  unfold richCompare
  simp only [oneThing_ref]
  refine wpAny_holding (wpAny_bind (wpAny_cRoomFor (Nat.lt_of_succ_lt hu) ?_))
  rw [cmpInfo_NotEq]
  dsimp only
  refine wpAny_bind (I.type.here (wpAny_bind (hb.here ?_)))
  rw [show (Value.ref C != Value.ref C) = false from by simp]
  simp only [Bool.false_eq_true, if_false]
  refine wpAny_bind (wpAny_pure ?_)
  simp only [Bool.false_eq_true, if_false]
  refine wpAny_bind (wpAny_mono one (fun r s' z => ?_) fun _ _ e => e)
  obtain ⟨v, rfl, hq⟩ := z
  exact wpAny_pure hq
end
end OwNe
namespace OwX
open PySem PySem.Spec PyProof.Rows L2
/-- == and != of two instances of one class by its own __eq__ -/
def rOwn (C : Addr) (sp : Sp) (neg : Bool) : R2 := fun x y H Q => ∃ a b dx dy fs gs, x = .ref a ∧ y = .ref b ∧ H a = some (.ins C dx fs) ∧ H b = some (.ins C dy gs) ∧
  sp [.ref a, .ref b] H (fun v H' => ∃ r : Bool, v = .bl r ∧ Q (.bl (if neg = true then !r else r)) H') E0
structure OwnCmp (K : PySem.W.Frag) (C f : Addr) : Prop where
  eq : PySem.W.findIn K (.ref C) "__eq__" = some (some (.ref f))
  ne : PySem.W.findIn K (.ref C) "__ne__" = some (some (.builtin "object.__ne__"))
  ob : PySem.W.subIn K (.ref C) (.type "object") = some true
  fn : PySem.W.isFn K (.ref f) = true
section
variable {X : Cx} {k : Nat} {C f : Addr} {fd : FuncData} {ps : List Str} {sp : Sp}
theorem op_eqOwn (F : FnOk X.prog X.w X.K X.mg X.base CX0 k f fd ps sp) (O : OwnCmp X.K C f) (hb : Binds X.K fd ps []) (hr : Room k X.A) : OpR X (compareOp .Eq) (rOwn C sp false) := by
  intro pins s σ H x y v u Q I rx ry h
  obtain ⟨a, b, dx, dy, fs, gs, rfl, rfl, ha, hb', hsp⟩ := h
  cases rx
  cases ry
  obtain ⟨mA, J, _⟩ := ins_get I.hok ha
  obtain ⟨mB, J', _⟩ := ins_get I.hok hb'
  obtain ⟨od, J, _⟩ := J.look
  obtain ⟨od', J', _⟩ := J'.look
  obtain ⟨m, hF⟩ := I.fr
  show wpAny (model X.prog X.w) X.A (richCompare .Eq (.ref a) (.ref b)) (EP X pins σ Q) X.xe s
  refine PySem.W.cmp_K (op := .Eq) (tb := .ref C) hr.units0 hF I.ok.mod.kin J J'.type (by simp [PySem.W.notFirst]) O.eq O.fn ?_
  have hl := F.len _ _ _ _ hsp
  have r2 : Vals [V.ref a, V.ref b] [Value.ref a, Value.ref b] := .cons rfl (.cons rfl .nil)
  refine wpAny_call (codeAny_mono (F.run X.A X.stack s H ⟨[.ref a, .ref b], []⟩ [.ref a, .ref b] [.ref a, .ref b] _ E0 hr I.env0 (by
    have := hb s [.ref a, .ref b] I.kIn (by simpa using hl)
    simpa using this) r2 hsp) fun r s' hq => ?_)
  cases r with
  | error e => exact False.elim hq
  | ok fl =>
    cases fl with
    | ret w =>
      obtain ⟨z, H', I', rz, r, ez, q⟩ := I.after hq
      subst ez
      cases rz
      exact ⟨.bl r, H', I', rfl, q⟩
    | next => exact False.elim hq
    | brk => exact False.elim hq
    | cont => exact False.elim hq
theorem op_neOwn (F : FnOk X.prog X.w X.K X.mg X.base CX0 k f fd ps sp) (O : OwnCmp X.K C f) (hb : Binds X.K fd ps []) (hr : Room (k + 1) X.A) : OpR X (compareOp .NotEq) (rOwn C sp true) := by
  intro pins s σ H x y v u Q I rx ry h
  obtain ⟨a, b, dx, dy, fs, gs, rfl, rfl, ha, hb', hsp⟩ := h
  cases rx
  cases ry
  obtain ⟨mA, J, _⟩ := ins_get I.hok ha
  obtain ⟨mB, J', _⟩ := ins_get I.hok hb'
  obtain ⟨od, J, _⟩ := J.look
  obtain ⟨od', J', _⟩ := J'.look
  obtain ⟨m, hF⟩ := I.fr
  show wpAny (model X.prog X.w) X.A (richCompare .NotEq (.ref a) (.ref b)) (EP X pins σ Q) X.xe s
  refine OwNe.ne_K (by have := hr.un; omega) hF I.ok.mod.kin J J'.type O.ne O.ob O.eq O.fn ?_
  have hl := F.len _ _ _ _ hsp
  have r2 : Vals [V.ref a, V.ref b] [Value.ref a, Value.ref b] := .cons rfl (.cons rfl .nil)
  refine wpAny_call (codeAny_mono (F.run X.A.in1 X.stack s H ⟨[.ref a, .ref b], []⟩ [.ref a, .ref b] [.ref a, .ref b] _ E0 hr.in1 I.env0.in1 (by
    have := hb s [.ref a, .ref b] I.kIn (by simpa using hl)
    simpa using this) r2 hsp) fun r s' hq => ?_)
  cases r with
  | error e => exact False.elim hq
  | ok fl =>
    cases fl with
    | ret w =>
      obtain ⟨z, H', I', rz, r, ez, q⟩ := I.after hq
      subst ez
      cases rz
      exact ⟨r, rfl, .bl (!r), H', I', rfl, q⟩
    | next => exact False.elim hq
    | brk => exact False.elim hq
    | cont => exact False.elim hq
end
end OwX

namespace OwX
open PySem PySem.Spec PyProof.Rows L2
/-- integers by texts -/
def amX (ks : List Str) (f : Str → Int) : List (Key × V) := ks.map fun k => (Sum.inr k, .int (f k))
theorem amX_val {ks : List Str} {f : Str → Int} {k : Str} (h : k ∈ ks) : valV (amX ks f) (Sum.inr k) = some (.int (f k)) := by
  induction ks with
  | nil => exact nomatch h
  | cons t nl ih =>
    show valV ((Sum.inr t, V.int (f t)) :: amX nl f) (Sum.inr k) = _
    by_cases c : t = k
    · rw [valV_pos (by rw [c]), c]
    · rw [valV_neg (fun e => c (Sum.inr.inj e))]
      rcases List.mem_cons.mp h with e | e
      · exact absurd e.symm c
      · exact ih e
theorem hitsK {A : Around} {s : Shared} {g : Str → Int} {f : Str → Int} {ls : List Str} {vb : List (Key × Value)} (rb : KV (amX ls g) vb) : ∀ {ks : List Str} {va : List (Key × Value)}, KV (amX ks f) va → (∀ k ∈ ks, k ∈ ls) →
    PySem.W.KeqHits A s vb va (ks.all fun k => decide (f k = g k))
  | [], _, r, _ => by
    unfold KV at r
    cases r
    exact .nil
  | k :: ks, va, r, h => by
    unfold KV at r
    cases r with
    | @cons p q ps qs h1 t =>
      obtain ⟨e1, e2⟩ := h1
      obtain ⟨key, v⟩ := q
      have e1' : (Sum.inr k : Key) = key := e1
      have rr : RelO (some (V.int (g k))) (valueAt vb (Sum.inr k)) := by
        rw [← amX_val (f := g) (h k List.mem_cons_self)]
        exact rb.val _
      obtain ⟨y, hy, ry⟩ := rr.some_of
      obtain ⟨t1, e3⟩ := (show ∃ t, v = Value.int (f k) t from e2)
      obtain ⟨t2, e4⟩ := (show ∃ t, y = Value.int (g k) t from ry)
      subst e3 e4
      rw [e1'] at hy
      have z : SeqAt.EqAt A s (Value.int (f k) t1) (Value.int (g k) t2) (PyData.eqv (.int (f k)) (.int (g k))) := PySem.W.keq_flat (fun _ => .int _ _) (fun _ => .int _ _)
      have ev : PyData.eqv (.int (f k)) (.int (g k)) = decide (f k = g k) := by
        show (f k == g k) = _
        by_cases c : f k = g k <;> simp [c]
      rw [ev] at z
      rw [List.all_cons]
      exact .hit hy z (hitsK rb t fun j hj => h j (List.mem_cons_of_mem _ hj))
/-- == and != of two dicts of integers with the same keys -/
def rEqK (neg : Bool) : R2 := fun x y H Q => ∃ (a b : Addr) (ks : List Str) (f g : Str → Int), x = .ref a ∧ y = .ref b ∧ H a = some (.dK (amX ks f)) ∧ H b = some (.dK (amX ks g)) ∧ Q (.bl (if neg = true then !(ks.all fun k => decide (f k = g k)) else ks.all fun k => decide (f k = g k))) H
section
variable {X : Cx}
theorem op_eqK (hu : X.A.units + 1 < cLine) : OpR X (compareOp .Eq) (rEqK false) := by
  intro pins s σ H x y v u Q I rx ry h
  obtain ⟨a, b, ks, f, g, rfl, rfl, ha, hb, q⟩ := h
  cases (show v = Value.ref a from rx)
  cases (show u = Value.ref b from ry)
  obtain ⟨_, ya, va, ra, da⟩ := (show ObjOk X.prog X.w H s.heap a (.dK (amX ks f)) from I.hok a _ ha)
  obtain ⟨_, yb, vb, rb, db⟩ := (show ObjOk X.prog X.w H s.heap b (.dK (amX ks g)) from I.hok b _ hb)
  refine PySem.W.keq_eq (knd := mixKind X.prog X.w) (r := ks.all fun k => decide (f k = g k)) ya yb da db (Nat.lt_of_succ_lt hu) (fun _ => hitsK rb ra fun _ h => h) ?_
  have e : va.length = vb.length := by rw [← ra.length, ← rb.length]; unfold amX; rw [List.length_map, List.length_map]
  rw [show (va.length == vb.length && ks.all fun k => decide (f k = g k)) = ks.all fun k => decide (f k = g k) from by rw [e]; simp]
  exact ⟨.bl _, H, I, rfl, q⟩
theorem op_neK (hu : X.A.units + 1 < cLine) : OpR X (compareOp .NotEq) (rEqK true) := by
  intro pins s σ H x y v u Q I rx ry h
  obtain ⟨a, b, ks, f, g, rfl, rfl, ha, hb, q⟩ := h
  cases (show v = Value.ref a from rx)
  cases (show u = Value.ref b from ry)
  obtain ⟨_, ya, va, ra, da⟩ := (show ObjOk X.prog X.w H s.heap a (.dK (amX ks f)) from I.hok a _ ha)
  obtain ⟨_, yb, vb, rb, db⟩ := (show ObjOk X.prog X.w H s.heap b (.dK (amX ks g)) from I.hok b _ hb)
  refine PySem.W.keq_ne (knd := mixKind X.prog X.w) (r := ks.all fun k => decide (f k = g k)) ya yb da db (Nat.lt_of_succ_lt hu) (fun _ => hitsK rb ra fun _ h => h) ?_
  have e : va.length = vb.length := by rw [← ra.length, ← rb.length]; unfold amX; rw [List.length_map, List.length_map]
  rw [show (va.length == vb.length && ks.all fun k => decide (f k = g k)) = ks.all fun k => decide (f k = g k) from by rw [e]; simp]
  exact ⟨.bl _, H, I, rfl, q⟩
end
end OwX


namespace OwW
open PySem PyProof.Rows L2 L2H OwX Rd Evl
abbrev sDEq : Stmt := mth 32 24
def spDEq (CW CD : Addr) : Sp := fun vs H Q _ => ∃ (a b wb : Addr) (ks : List Str) (ys : TL) (f g : Str → Int), vs = [.ref a, .ref b] ∧ IsDebts CW CD H a wb ks ys f ∧ IsDebts CW CD H b wb ks ys g ∧ Q (.bl (ks.all fun k => decide (f k = g k))) H
abbrev sDTot : Stmt := mth 32 6
def spDTot (CW CD : Addr) : Sp := fun vs H Q _ => ∃ (a wb : Addr) (ks : List Str) (ys : TL) (f : Str → Int), vs = [.ref a] ∧ IsDebts CW CD H a wb ks ys f ∧ ∀ H', Ex H H' → Q (.int (ks.map f).sum) H'
section
variable {P : Program} {w : World} {K : PySem.W.Frag} {mg : Str → Option Value} {base : Heap}
theorem scDEq : FnScope ["self", "other"] ["self", "other"] (defScope sDEq) := ⟨rfl, rfl, rfl, by decide +kernel, rfl, by decide +kernel, by decide +kernel⟩
theorem ok_deq {f g CW CD : Addr} {fd gd : FuncData} (F : Fun K "__eq__" "Debts.__eq__" sDEq f fd) (gD : mg "Debts" = some (.ref CD)) (kC : PySem.W.kitOne K (.ref CD) (.ref CD) = some true) (DT : InsTy K CD) (DK : DebtsK K CD) (T : BltB mg)
    (FE : Fun K "__eq__" "Web.__eq__" sWEq g gd) (OE : OwnCmp K CW g) (GE : FnOk P w K mg base CX0 1 g gd ["self", "other"] (spWEq CW)) : FnOk P w K mg base CX0 2 f fd ["self", "other"] (spDEq CW CD) := by
  have nd := scDEq.nd
  have bE : Binds K gd ["self", "other"] [] := FE.binds fun _ _ _ _ _ _ us hl => match us, hl with | [_, _], _ => rfl
  refine F.ok scDEq (fun vs H Q E h => ?_) (fun cdv A outer s H vs Q E hr h => ⟨_, (pss_one (ps_ret (pe_and (pe_callB call_isi (by rfl) T.isinst (by decide +kernel) (pa_cons (pv 1) (pa_cons (pe_glob (v := .ref CD) (by rfl) gD rfl) pa_nil))) (pe_and (pe_cmpR (op_eqOwn GE OE bE (hr.mono (by decide))) (pe_fld (pv 0) rfl) (pe_fld (pv 1) rfl) (nomark _)) (pe_one (pe_cmpR (op_eqK (units1 hr)) (pe_fld (pv 0) rfl) (pe_fld (pv 1) rfl) (nomark _))))))), ?_⟩)
  · obtain ⟨a, b, wb, ks, ys, f, g, rfl, _⟩ := h
    rfl
  · obtain ⟨a, b, wb, ks, ys, fn, gn, rfl, da, db, k⟩ := h
    obtain ⟨dx, n, h1, h2⟩ := da.at_
    obtain ⟨dy, m, g1, g2⟩ := db.at_
    obtain ⟨dz, p, q, nw, nl, w1, wa, w3, w4, w5⟩ := da.web.at_
    have tD : TyOf K H (.ref b) (.ref CD) := DT.ty g1
    walk_at "rd"
    refine Rd.andv ?_
    walk_at "rd"
    refine ⟨.ref b, .ref CD, .ref CD, .ref CD, true, rfl, .own CD, .base tD, kC, true, rfl, ?_⟩
    refine Rd.iteT rfl (Rd.andv ?_)
    unfold tOp tFld
    walk_at "rd"
    refine ⟨a, CD, dx, _, .ref wb, rfl, h1, DK.cls, DK.nw, rfl, ?_⟩
    walk_at "rd"
    refine ⟨b, CD, dy, _, .ref wb, rfl, g1, DK.cls, DK.nw, rfl, ?_⟩
    refine ⟨wb, wb, dz, dz, _, _, rfl, rfl, w1, w1, wb, wb, ks, ks, ys, ys, rfl, da.web, da.web, _, rfl, ?_⟩
    rw [decide_eq_true rfl, decide_eq_true rfl]
    refine ⟨_, rfl, ?_⟩
    refine Rd.iteT rfl ?_
    walk_at "rd"
    refine ⟨a, CD, dx, _, .ref n, rfl, h1, DK.cls, DK.na, rfl, ?_⟩
    walk_at "rd"
    refine ⟨b, CD, dy, _, .ref m, rfl, g1, DK.cls, DK.na, rfl, ?_⟩
    exact ⟨n, m, ks, fn, gn, rfl, rfl, h2, g2, k⟩
end
end OwW


namespace OwW
open PySem PyProof.Rows L2 L2H OwX Rd Evl
abbrev sPPlan : Stmt := top 34
abbrev NPp : List Str := ["web", "plan", "least", "place"]
theorem amK_vals (ks : List Str) (f : Str → Int) : (amK ks f).map (·.2) = (ks.map f).map V.int := by
  unfold amK
  rw [List.map_map, List.map_map]
  rfl
theorem amK_numsF {ks : List Str} {f : Str → Int} {H : Hp} {m : Addr} (h : H m = some (.dK (amK ks f))) (h9 : ks.length ≤ 9) (hf : ∀ k ∈ ks, (f k).natAbs < 10 ^ 60) : Nums H m ks f := by
  refine ⟨amK ks f, h, by unfold amK; rw [List.length_map]; omega, ?_, fun k hk => amK_some hk, fun p hp => ?_⟩
  · unfold justB
    rw [Bool.and_eq_true]
    refine ⟨decide_eq_true (by unfold amK; rw [List.length_map]), ?_⟩
    rw [List.all_eq_true]
    intro k hk
    rw [amK_some hk]
    rfl
  · obtain ⟨k, hk, rfl⟩ := List.mem_map.mp hp
    exact ⟨f k, rfl, hf k hk⟩
/-- plain_plan of a plan with the places in their order -/
def spPPlan (CW : Addr) : Sp := fun vs H Q _ => ∃ (wb m : Addr) (ks : List Str) (ys : TL) (f : Str → Int), vs = [.ref wb, .ref m] ∧ IsWeb CW H wb ks ys ∧ H m = some (.dK (amK ks f)) ∧ (∀ k ∈ ks, (f k).natAbs < 10 ^ 60) ∧
  ∀ p H' (mn : Int), mn ∈ ks.map f → (∀ y ∈ ks.map f, mn ≤ y) → Ex H H' → H' p = some (.dK (amK ks fun k => f k - mn)) → H p = none → Q (.ref p) H'
section
variable {P : Program} {w : World} {K : PySem.W.Frag} {mg : Str → Option Value} {base : Heap}
theorem scDTot : FnScope ["self"] ["self"] (defScope sDTot) := ⟨rfl, rfl, rfl, by decide +kernel, rfl, by decide +kernel, by decide +kernel⟩
theorem ok_dtot {f CW CD : Addr} {fd : FuncData} (F : Fun K "total" "Debts.total" sDTot f fd) (DK : DebtsK K CD) (gLi : mg "list" = none) (gS : mg "sum" = none) : FnOk P w K mg base CX0 1 f fd ["self"] (spDTot CW CD) := by
  have nd := scDTot.nd
  refine F.ok scDTot (fun vs H Q E h => ?_) (fun cdv A outer s H vs Q E hr h => ⟨_, (pss_one (ps_ret (pe_callB (cr_sum rfl) (by rfl) gS (by decide +kernel) (pa_cons (OwV.pe_listVals rfl (pe_fld (pv 0) rfl) (by rfl) gLi (by decide +kernel)) pa_nil)))), ?_⟩)
  · obtain ⟨a, wb, ks, ys, fn, rfl, _⟩ := h
    rfl
  · obtain ⟨a, wb, ks, ys, fn, rfl, db, k⟩ := h
    have k9 := db.web.ok.nine
    obtain ⟨dx, n, h1, h2⟩ := db.at_
    walk_at "rd"
    unfold OwV.tVals tFld
    walk_at "rd"
    refine ⟨a, CD, dx, _, .ref n, rfl, h1, DK.cls, DK.na, rfl, ?_⟩
    refine ⟨n, _, rfl, h2, Nat.le_of_lt (sz_lt (by unfold amK; rw [List.length_map]; omega)), fun q hq => ?_⟩
    walk_at "rd"
    rw [amK_vals]
    refine ⟨q, ks.map fn, rfl, SqL.of upd_same, ?_⟩
    exact k _ (Ex.new hq)
theorem scPPlan : FnScope NPp ["web", "plan"] (defScope sPPlan) := ⟨rfl, rfl, rfl, by decide +kernel, rfl, by decide +kernel, by decide +kernel⟩
theorem ok_plainp {f g gp CW pp : Addr} {fd gd gpd : FuncData} (F : Fun K "plain_plan" "plain_plan" sPPlan f fd) (FN : Fun K "_need_plan" "_need_plan" sNeedPl g gd) (gN : mg "_need_plan" = some (.ref g)) (GN : FnOk P w K mg base CX0 5 g gd ["web", "plan"] (spNeedPl CW))
    (FP : Fun K "places" "Web.places" sWPlaces gp gpd) (PP : PropOf K CW "places" pp gp) (GP : FnOk P w K mg base CX0 1 gp gpd ["self"] (spWPlaces CW)) (WK : WebK K CW) (gLi : mg "list" = none) (gMn : mg "min" = none) : FnOk P w K mg base CX0 6 f fd ["web", "plan"] (spPPlan CW) := by
  have nd := scPPlan.nd
  have bP : Binds K gpd ["self"] [] := FP.binds fun _ _ _ _ _ _ us hl => match us, hl with | [_], _ => rfl
  have bN : Binds K gd ["web", "plan"] [] := FN.binds fun _ _ _ _ _ _ us hl => match us, hl with | [_, _], _ => rfl
  refine F.ok scPPlan (fun vs H Q E h => ?_) (fun cdv A outer s H vs Q E hr h => ⟨_, (pss_cons (ps_expr (pe_call GN (hr.mono (by decide)) (by rfl) gN FN.kp bN .nil pass0 (pa_cons (pv 0) (pa_cons (pv 1) pa_nil))))
    (pss_cons (ps_set (i := 2) nd rfl (Or.inr rfl) (pe_callB (cr_min rfl) (by rfl) gMn (by decide +kernel) (pa_cons (OwV.pe_listVals rfl (pv 1) (by rfl) gLi (by decide +kernel)) pa_nil)))
    (pss_one (ps_ret (pe_dc (own := [("place", 3)]) (g := gName 3) (tt := tYes) rfl nd (pi_tup (pe_prop (pv 0) WK.cls PP GP (hr.mono (by decide)) bP .nil pass0 rfl)) (blkOk_by (own := [("place", 3)]) (N := NPp) (sc := defScope sPPlan) (by decide +kernel)) (fun _ _ _ _ _ => (pg_name (i := 3) nd rfl (Or.inl rfl))) (fun _ _ _ _ _ => pts_nil) (fun _ _ _ _ _ => (pv 3)) (fun _ _ _ _ _ => (pe_op op_sub (pe_dget (units1 hr) (pv 1) (pv 3) (fun _ _ => rfl)) (pv 2)))))))), ?_⟩)
  · obtain ⟨wb, m, ks, ys, fn, rfl, _⟩ := h
    rfl
  · obtain ⟨wb, m, ks, ys, fn, rfl, hw, hm, hf, k⟩ := h
    have k9 := hw.ok.nine
    have k2 := hw.ok.two
    have kas := hw.ok.asc
    obtain ⟨dy, p, q, nw, nl, w1, wa, w3, w4, w5⟩ := hw.at_
    walk_at "rd"
    refine ⟨wb, m, ks, ys, fn, rfl, hw, amK_numsF hm k9 hf, fun H1 e1 => ?_⟩
    walk_at "rd"
    unfold OwV.tVals
    walk_at "rd"
    refine ⟨m, _, rfl, e1 _ _ hm, Nat.le_of_lt (sz_lt (by unfold amK; rw [List.length_map]; omega)), fun q' hq' => ?_⟩
    rw [amK_vals]
    have e2 : Ex H1 (upd H1 q' (.lst ((ks.map fn).map V.int))) := Ex.new hq'
    have l2 : (upd H1 q' (.lst ((ks.map fn).map V.int))) q' = some (.lst ((ks.map fn).map V.int)) := upd_same
    generalize upd H1 q' (.lst ((ks.map fn).map V.int)) = H2 at e2 l2 ⊢
    walk_at "rd"
    refine ⟨q', ks.map fn, rfl, SqL.of l2, by rw [List.length_map]; omega, fun mn hmn hle => ?_⟩
    walk_at "rd"
    have e12 := e1.trans e2
    unfold tDc iTup tProp
    walk_at "rd"
    refine ⟨wb, dy, _, rfl, e12 _ _ w1, wb, ks, ys, rfl, hw.ex e12, fun p' hp' => ?_⟩
    refine ⟨p', rfl, ⟨_, SqT.of hp'⟩, fun D hD => ?_⟩
    refine dc_tup (xs := ks.map V.str) (fun i H4 => Ex H2 H4 ∧ H4 D = some (.dK (amK (ks.take i) fun k => fn k - mn))) ⟨Ex.new hD, upd_same⟩ (fun i H4 _ hP => SqT.of (hP.1 _ _ hp')) (fun i z H4 hz hP => ?_) (fun H4 hP => ?_)
    · obtain ⟨e4, hn4⟩ := hP
      rw [List.getElem?_map] at hz
      cases hb : ks[i]? with
      | none => rw [hb] at hz; exact nomatch hz
      | some b =>
        rw [hb] at hz
        cases hz
        have bk := List.mem_of_getElem? hb
        show _ ∧ _
        refine ⟨rfl, ?_⟩
        unfold tYes
        show (if (true : Bool) = true then _ else _)
        rw [if_pos rfl]
        walk_at "rd"
        unfold tDGet
        walk_at "rd"
        have dg := DGet.k (k := Sum.inr b) (e4 _ _ (e12 _ _ hm))
        rw [amK_some bk] at dg
        refine ⟨m, _, rfl, dg, ?_⟩
        walk_at "rd"
        refine ⟨amK (ks.take i) (fun k => fn k - mn), Sum.inr b, rfl, hn4, sz_lt (by unfold amK; rw [List.length_map, List.length_take]; omega), e4.mut hD, ?_⟩
        rw [take_step (f := fun k => fn k - mn) kas hb, upd_same]
    · obtain ⟨e4, hn4⟩ := hP
      rw [List.length_map, List.take_length] at hn4
      walk_at "rd"
      exact k D _ mn hmn hle (e12.trans e4) hn4 (none_ex e12 hD)
end
end OwW

namespace OwX
open PySem PySem.Spec PyProof.Rows L2
/-- f(e, ..), f a def told by positional values -/
def tCallR (sp : Sp) (t : TA) : TE := fun σ H Q => t σ H fun vs H1 => sp vs H1 Q E0
section
variable {X : Cx} {k : Nat} {f : Addr} {sp : Sp} {x : Str} {p pos : Pos} {e : Expr} {es : List Expr} {t : TA}
theorem pe_callRn (F : FnR X.prog X.w X.K X.mg X.base CX0 k f sp) (hr : Room k X.A) (hg : Gl X x) (hm : X.mg x = some (.ref f)) (hk : PySem.W.keepIn X.K (.ref f) = true)
    (ha : PA X (e :: es) t) (hdb : (x == ("__debug__" : Str)) = false := by decide) (he : starEach (e :: es) X.env = (false, eval e X.env) :: starEach es X.env := by rfl) (hpl : (backTo pos (starEach es X.env)).any (·.1) = false := by rfl) :
    PE X (.Call (.Name x p) (e :: es) [] pos) (tCallR sp t) := by
  refine ⟨fun pins s σ H Q I h => ?_⟩
  refine wpAny_Call_Name_kw (ld_glob I hg hm ?_ hdb)
  refine PySem.W.callWith_K (h₀ := X.base) I.ok.mod.kin hk (thn (ha.run pos pins s σ H _ I h) fun us s1 ⟨vs, H1, I1, r, q⟩ => ⟨I1.kIn, ?_⟩) he hpl
  exact wpAny_call (run_fnR F hr pass0 I1 r q)
end
section
variable {P : Program} {w : World} {K : PySem.W.Frag} {mg : Str → Option Value} {base : Heap}
/-- a def with one named parameter and a starred one, as it stands behind the top -/
theorem fun_star1 {x qual p1 pv : Str} {st : Stmt} {f : Addr} {fd : FuncData} {N : List Str} {k : Nat} {sp : Sp} (F : Fun K x qual st f fd) (S : FnScope N [p1, pv] (defScope st))
    (h0 : ∀ (kV doc pm : Value) (an : Option Addr) (cdv ct a : Value), bindArgs (PySem.W.fnOf x qual (defArgs st) (defBody st) (defScope st) .none kV doc pm an cdv ct) ⟨[a], []⟩ = (newTuple [] >>= fun t => pure [(p1, a), (pv, t)]))
    (h1 : ∀ (kV doc pm : Value) (an : Option Addr) (cdv ct a r : Value) (rs : List Value), bindArgs (PySem.W.fnOf x qual (defArgs st) (defBody st) (defScope st) .none kV doc pm an cdv ct) ⟨a :: r :: rs, []⟩ = (newTuple (r :: rs) >>= fun t => pure [(p1, a), (pv, t)]))
    (hbody : ∀ (cdv : Value) (A : Around) (outer : List Env) (s : Shared) (H : Hp) (vs : List V) (Q : VK) (E : XK), Room k (A.deeper (envOfC qual (defScope st) s.heap.objs.size f cdv)) → sp vs H Q E →
      ∃ t, PSs (cxOf CX0 P w K mg base N qual (defScope st) f cdv A outer s H E).nox (defBody st) t ∧ t { nx := fun _ H' => Q .non H', rt := Q } (start N vs) H) :
    FnR P w K mg base CX0 (k + 1) f (fun vs H Q E => ∃ ws rest, vs = ws ++ rest ∧ ws.length = 1 ∧ rest.length ≤ sizeLine ∧ ∀ p, H p = Option.none → sp (ws ++ [V.ref p]) (upd H p (.tup rest)) Q E) := by
  obtain ⟨oc, od, kV, doc, pm, an, cdv, ct, osl, rfl, lk, hcd⟩ := F.ex
  refine StX.fn_star (ps := [p1]) (pv := pv) lk hcd S StX.cxUp_none (StX.bind_star1 (B := fun us => bindArgs (PySem.W.fnOf x qual (defArgs st) (defBody st) (defScope st) .none kV doc pm an cdv ct) ⟨us, []⟩) (h0 kV doc pm an cdv ct) (h1 kV doc pm an cdv ct)) fun A outer s H vs Q E hr hsp => ?_
  obtain ⟨t, h, q⟩ := hbody cdv A outer s H vs Q E hr hsp
  exact ⟨t, h.nox, q⟩
end
end OwX


namespace OwW
open PySem PyProof.Rows L2 L2H OwX Rd Evl
abbrev sJoin : Stmt := top 35
abbrev NJo : List Str := ["web", "plans", "plan", "place"]
/-- the scope of the outer comprehension -/
abbrev scIn : Scope := { kind := .function, names := [(".0", .local), ("place", .cell), ("sum", .globalImplicit), ("plans", .cell)], isGenerator := false, isCoroutine := false }
abbrev PLs := List (Addr × (Str → Int))
/-- the sum of plans -/
def sumF (ms : PLs) (k : Str) : Int := (ms.map fun m => m.2 k).sum
def spJoinB (CW : Addr) : Sp := fun vs H Q _ => ∃ (wb p : Addr) (ks : List Str) (ys : TL) (ms : PLs), vs = [.ref wb, .ref p] ∧ IsWeb CW H wb ks ys ∧ H p = some (.tup (ms.map fun m => V.ref m.1)) ∧ ms.length ≤ 9 ∧ (∀ m ∈ ms, Nums H m.1 ks m.2) ∧
  ∀ q H', Ex H H' → H' q = some (.dK (amK ks (sumF ms))) → H q = none → Q (.ref q) H'
/-- .. called -/
def spJoin (CW : Addr) : Sp := fun vs H Q _ => ∃ (wb : Addr) (ks : List Str) (ys : TL) (ms : PLs), vs = .ref wb :: ms.map (fun m => V.ref m.1) ∧ IsWeb CW H wb ks ys ∧ ms.length ≤ 9 ∧ (∀ m ∈ ms, Nums H m.1 ks m.2) ∧
  ∀ q H', Ex H H' → H' q = some (.dK (amK ks (sumF ms))) → H q = none → Q (.ref q) H'
theorem yes_i {σ : L2.St} {H : Hp} {F G : Hp → Prop} (h : F H) : tYes σ H fun b H3 => if b = true then F H3 else G H3 := by
  show (if (true : Bool) = true then F H else G H)
  rw [if_pos rfl]
  exact h
section
variable {P : Program} {w : World} {K : PySem.W.Frag} {mg : Str → Option Value} {base : Heap}
theorem scJoin : FnScope NJo ["web", "plans"] (defScope sJoin) := ⟨rfl, rfl, rfl, by decide +kernel, rfl, by decide +kernel, by decide +kernel⟩
theorem ok_join {f g gw gp CW pp : Addr} {fd gd gwd gpd : FuncData} (F : Fun K "joined_plans" "joined_plans" sJoin f fd) (FN : Fun K "_need_plan" "_need_plan" sNeedPl g gd) (gN : mg "_need_plan" = some (.ref g)) (GN : FnOk P w K mg base CX0 5 g gd ["web", "plan"] (spNeedPl CW))
    (FW : Fun K "need_web" "need_web" sNeedW gw gwd) (gW : mg "need_web" = some (.ref gw)) (GW : FnOk P w K mg base CX0 1 gw gwd ["web"] (spNeedW CW))
    (FP : Fun K "places" "Web.places" sWPlaces gp gpd) (PP : PropOf K CW "places" pp gp) (GP : FnOk P w K mg base CX0 1 gp gpd ["self"] (spWPlaces CW)) (WK : WebK K CW) (gS : mg "sum" = none) : FnR P w K mg base CX0 6 f (spJoin CW) := by
  have nd := scJoin.nd
  have bP : Binds K gpd ["self"] [] := FP.binds fun _ _ _ _ _ _ us hl => match us, hl with | [_], _ => rfl
  have bN : Binds K gd ["web", "plan"] [] := FN.binds fun _ _ _ _ _ _ us hl => match us, hl with | [_, _], _ => rfl
  have bW : Binds K gwd ["web"] [] := FW.binds fun _ _ _ _ _ _ us hl => match us, hl with | [_], _ => rfl
  refine (fun_star1 (sp := spJoinB CW) F scJoin (fun _ _ _ _ _ _ _ => rfl) (fun _ _ _ _ _ _ _ _ _ => rfl) (fun cdv A outer s H vs Q E hr h => ⟨_, (pss_cons (ps_expr (pe_call GW (hr.mono (by decide)) (by rfl) gW FW.kp bW .nil pass0 (pa_cons (pv 0) pa_nil)))
    (pss_cons (ps_for PassesOwn.never rfl (pi_tup (pv 1)) (pg_name (i := 2) nd rfl (Or.inl rfl)) (pss_one (ps_expr (pe_call GN (hr.mono (by decide)) (by rfl) gN FN.kp bN .nil pass0 (pa_cons (pv 0) (pa_cons (pv 2) pa_nil))))))
    (pss_one (ps_ret (pe_dc (own := [("place", 3)]) (g := gName 3) (tt := tYes) (tv := tCB (rSum K) (tCons (tLc (iTup K (tVar 1)) (gName 2) tYes (tDGet (tVar 2) (tVar 3)) [2]) tNil)) rfl nd (pi_tup (pe_prop (pv 0) WK.cls PP GP (hr.mono (by decide)) bP .nil pass0 rfl)) (blkOk_by (own := [("place", 3)]) (N := NJo) (sc := defScope sJoin) (by decide +kernel)) (fun _ _ _ _ _ => (pg_name (i := 3) nd rfl (Or.inr rfl))) (fun _ _ _ _ _ => pts_nil) (fun _ _ _ _ _ => (pv 3)) (fun _ _ _ _ _ => (pe_callB (cr_sum rfl) (by rfl) gS (by decide +kernel) (pa_cons (pe_lc (own := [("plan", 2)]) (g := gName 2) (tt := tYes) rfl nd (pi_tup (pv 1)) (blkOk_by (own := [("plan", 2)]) (N := NJo) (sc := scIn) (by decide +kernel)) (fun _ _ _ _ _ => (pg_name (i := 2) nd rfl (Or.inl rfl))) (fun _ _ _ _ _ => pts_nil) (fun _ _ _ _ _ => (pe_dget (units1 hr) (pv 2) (pv 3) (fun _ _ => rfl)))) pa_nil)))))))), ?_⟩)).imp ?_
  · obtain ⟨wb, pt, ks, ys, ms, rfl, hw, hp, m9, hn, k⟩ := h
    have k9 := hw.ok.nine
    have kas := hw.ok.asc
    obtain ⟨dy, p, q, nw, nl, w1, wa, w3, w4, w5⟩ := hw.at_
    walk_at "rd"
    refine ⟨wb, ks, ys, rfl, hw, ?_⟩
    walk_at "rd"
    with_reducible refine Rd.for' ?_
    unfold iTup
    walk_at "rd"
    refine ⟨pt, rfl, ⟨_, SqT.of hp⟩, ?_⟩
    refine for_it (walk_tup (xs := ms.map fun m => V.ref m.1)) (fun i σ H' => ∃ x : Option V, σ = [some (.ref wb), some (.ref pt), x, none] ∧ Ex H H') ⟨none, rfl, Ex.refl H⟩ (fun i σ H' _ hP => ?_) (fun i z σ H3 H4 hi hP hY => ?_) (fun σ H3 hP => ?_)
    · obtain ⟨_, _, e3⟩ := hP
      exact SqT.of (e3 _ _ hp)
    · obtain ⟨x, rfl, e3⟩ := hP
      obtain ⟨rfl, hz⟩ := hY
      rw [List.getElem?_map] at hz
      obtain ⟨m, hm, rfl⟩ := Option.map_eq_some_iff.mp hz
      walk_at "rd"
      exact ⟨wb, m.1, ks, ys, m.2, rfl, hw.ex e3, (hn m (List.mem_of_getElem? hm)).ex e3, fun H5 e5 => ⟨_, rfl, e3.trans e5⟩⟩
    · obtain ⟨x, rfl, e3⟩ := hP
      walk_at "rd"
      unfold tDc tProp
      walk_at "rd"
      refine ⟨wb, dy, _, rfl, e3 _ _ w1, wb, ks, ys, rfl, hw.ex e3, fun p' hp' => ?_⟩
      refine ⟨p', rfl, ⟨_, SqT.of hp'⟩, fun D hD => ?_⟩
      refine dc_tup (xs := ks.map V.str) (fun i H4 => Ex H3 H4 ∧ H4 D = some (.dK (amK (ks.take i) (sumF ms)))) ⟨Ex.new hD, upd_same⟩ (fun i H4 _ hP => SqT.of (hP.1 _ _ hp')) (fun i z H4 hz hP => ?_) (fun H4 hP => ?_)
      · obtain ⟨e4, hn4⟩ := hP
        rw [List.getElem?_map] at hz
        cases hb : ks[i]? with
        | none => rw [hb] at hz; exact nomatch hz
        | some b =>
          rw [hb] at hz
          cases hz
          have bk := List.mem_of_getElem? hb
          show _ ∧ _
          refine ⟨rfl, ?_⟩
          refine yes_i ?_
          walk_at "rd"
          refine Rd.lcm' ?_
          have p4 := e4 _ _ (e3 _ _ hp)
          refine ⟨_, rfl, pt, rfl, ⟨_, SqT.of p4⟩, fun D2 hD2 => ?_⟩
          refine Rd.lc_mapG (te := tDGet (tVar 2) (tVar 3)) (g := gName 2) (walk_tup (xs := ms.map fun m => V.ref m.1)) (fun j => V.int ((ms.map fun m => m.2 b).getD j 0)) hD2 (by rw [List.length_map]; omega) (fun H' e => ex_t e (SqT.of p4)) (fun j y Ha Hb R hj ea y1 hR => ?_) (fun H6 e6 h6 => ?_)
          · obtain ⟨rfl, y2⟩ := y1
            rw [List.getElem?_map] at y2
            obtain ⟨m, hm, rfl⟩ := Option.map_eq_some_iff.mp y2
            have eo : (ms.map fun m => m.2 b).getD j 0 = m.2 b := by rw [List.getD_eq_getElem?_getD, List.getElem?_map, hm]; rfl
            rw [eo] at hR
            show _ ∧ _
            refine ⟨rfl, ?_⟩
            unfold tDGet
            walk_at "rd"
            exact ⟨m.1, _, rfl, (hn m (List.mem_of_getElem? hm)).has.get (e3.trans (e4.trans ea)) bk, hR _ (Ex.refl _)⟩
          · walk_at "rd"
            have h6' : H6 D2 = some (.lst ((ms.map fun m => m.2 b).map V.int)) := by
              rw [h6, List.length_map]
              have z := range_get V.int 0 (ms.map fun m => m.2 b)
              rw [List.length_map] at z
              rw [z]
            refine ⟨D2, ms.map (fun m => m.2 b), rfl, SqL.of h6', ?_⟩
            have n6 := e6 _ _ hn4
            refine ⟨amK (ks.take i) (sumF ms), Sum.inr b, rfl, n6, sz_lt (by unfold amK; rw [List.length_map, List.length_take]; omega), (e4.trans e6).mut hD, ?_⟩
            have z := take_step (f := sumF ms) kas hb
            rw [show sumF ms b = (ms.map fun m => m.2 b).sum from rfl] at z
            rw [z, upd_same]
      · obtain ⟨e4, hn4⟩ := hP
        rw [List.length_map, List.take_length] at hn4
        walk_at "rd"
        exact k D _ (e3.trans e4) hn4 (none_ex e3 hD)
  · rintro vs H Q E ⟨wb, ks, ys, ms, rfl, hw, m9, hn, k⟩
    refine ⟨[.ref wb], ms.map (fun m => V.ref m.1), rfl, rfl, Nat.le_of_lt (sz_lt (by rw [List.length_map]; omega)), fun p hp => ?_⟩
    have e1 : Ex H (upd H p (.tup (ms.map fun m => V.ref m.1))) := Ex.new hp
    exact ⟨wb, p, ks, ys, ms, rfl, hw.ex e1, upd_same, m9, fun m hm => (hn m hm).ex e1, fun q H' e h hq => k q H' (e1.trans e) h (none_ex e1 hq)⟩
end
end OwW


namespace OwW
open PySem PyProof.Rows L2 L2H OwX Rd Evl
abbrev sLNone : Stmt := top 58
abbrev NLn : List Str := ["_law_plain_here", "_law_place"]
abbrev sLStep : Stmt := top 57
abbrev NLs : List Str := ["_law_plain_here", "_law_giver", "_law_taker", "_law_place"]
/-- the dict of pairs with texts that are unlike -/
theorem merge_go {f : Str → Int} : ∀ (ls done : List Str), (∀ k ∈ ls, ¬ k ∈ done) → ls.Nodup → (amK ls f).foldl (fun acc kv => putK acc kv.1 kv.2) (amK done f) = amK (done ++ ls) f
  | [], done, _, _ => by rw [List.append_nil]; rfl
  | k :: ls, done, h, nd => by
    have nd' := List.nodup_cons.mp nd
    show (amK ls f).foldl (fun acc kv => putK acc kv.1 kv.2) (putK (amK done f) (Sum.inr k) (.int (f k))) = _
    rw [putK_new _ (amK_none (h k List.mem_cons_self))]
    have e : amK done f ++ [((Sum.inr k : Key), V.int (f k))] = amK (done ++ [k]) f := by
      unfold amK
      rw [List.map_append]
      rfl
    rw [e, merge_go ls (done ++ [k]) (fun j hj => ?_) nd'.2, List.append_assoc]
    · rfl
    · intro hm
      rcases List.mem_append.mp hm with m | m
      · exact h j (List.mem_cons_of_mem _ hj) m
      · rw [List.mem_singleton.mp m] at hj
        exact nd'.1 hj
theorem merge_amK {f : Str → Int} {ks : List Str} (nd : ks.Nodup) : mergeK [] (amK ks f) = amK ks f := by
  have z := merge_go (f := f) ks [] (fun _ _ h => nomatch h) nd
  rw [List.nil_append] at z
  exact z
theorem pairsE {X Y : Hp} {ps : List Addr} {kvs : List (Key × V)} (h : Paired (fun p kv => X p = some (.tup [kV kv.1, kv.2])) ps kvs) (e : ∀ p t, X p = some (.tup t) → Y p = some (.tup t)) : Paired (fun p kv => Y p = some (.tup [kV kv.1, kv.2])) ps kvs := by
  induction h with
  | nil => exact .nil
  | cons a _ ih => exact .cons (e _ _ a) ih
theorem pairsN {X : Hp} {ps : List Addr} {kvs : List (Key × V)} (h : Paired (fun p kv => X p = some (.tup [kV kv.1, kv.2])) ps kvs) : ps.length = kvs.length := by
  induction h with
  | nil => rfl
  | cons _ _ ih => rw [List.length_cons, List.length_cons, ih]
/-- [(k, e) for k in texts], e an integer that hangs on k alone: where lc_it stands -/
theorem lc_pairsG {te0 : TE} {s : Nat} {vs : List Nat} {σ : L2.St} {H1 : Hp} {D : Addr} {Qd : Hp → Prop} {ks : List Str} {f : Str → Int} {J : It} {n : Nat} {G : Hp → Prop} {Y : Nat → Hp → V → Hp → Prop} (wk : Walk J n G Y) (hn : n = ks.length) (hG : ∀ H', Ex H1 H' → G H')
    (hY : ∀ i Ha x Hb, Y i Ha x Hb → G Ha → Hb = Ha ∧ ∃ b, ks[i]? = some b ∧ x = .str b) (hD : H1 D = none) (hl : ks.length ≤ 60)
    (hset : ∀ v, wipe ((wipe σ vs).set s (some v)) vs = wipe σ vs) (hget : ∀ v, ((wipe σ vs).set s (some v))[s]? = some (some v))
    (hs : ∀ b ∈ ks, ∀ Ha, Ex H1 Ha → ∀ R : VK, (∀ Hb, Ex Ha Hb → R (.int (f b)) Hb) → te0 ((wipe σ vs).set s (some (.str b))) Ha R)
    (hd : ∀ H' ps, Ex H1 H' → H' D = some (.lst (ps.map V.ref)) → Paired (fun p kv => H' p = some (.tup [kV kv.1, kv.2])) ps (amK ks f) → Qd H') :
    ∃ W : Nat → Nat → Hp → Prop, (∃ m, W 0 m (upd H1 D (.lst []))) ∧ ∀ i m H, W i m H → (J.stop i H ∧ Qd H) ∨ (J.go i H ∧ ∃ Nx : Hp → Prop, (∀ H', Nx H' → ∃ m', m' < m ∧ W (i + 1) m' H') ∧
      ∀ x H', J.yld i H x H' → gName s x (wipe σ vs) H' fun σ2 H2 => wipe σ2 vs = wipe σ vs ∧ tYes σ2 H2 fun b H3 => if b = true then tTup (tCons (tVar s) (tCons te0 tNil)) σ2 H3 fun y H4 => ∃ acc, H4 D = some (.lst acc) ∧ acc.length < sizeLine ∧ Nx (upd H4 D (.lst (acc ++ [y]))) else Nx H3) := by
  refine lc_it wk (fun i H' => Ex H1 H' ∧ ∃ ps : List Addr, H' D = some (.lst (ps.map V.ref)) ∧ Paired (fun p kv => H' p = some (.tup [kV kv.1, kv.2])) ps (amK (ks.take i) f)) ⟨Ex.new hD, [], upd_same, .nil⟩ (fun i H' _ hP => hG H' hP.1) (fun i z Ha Hb hi hP hY0 => ?_) (fun H' hP => ?_)
  · obtain ⟨e1, ps, hps, hpr⟩ := hP
    obtain ⟨rfl, b, hb, rfl⟩ := hY _ _ _ _ hY0 (hG _ e1)
    have bk := List.mem_of_getElem? hb
    show _ ∧ _
    refine ⟨hset _, yes_i ?_⟩
    refine ⟨_, hget _, ?_⟩
    refine hs b bk Hb e1 _ fun Hc e2 => ?_
    refine ⟨small64 (n := 2) (by decide), fun p hp => ?_⟩
    have D1 := e2 _ _ hps
    have Dp : D ≠ p := fun e => by
      rw [← e, D1] at hp
      exact nomatch hp
    have pl := pairsN hpr
    refine ⟨ps.map V.ref, (upd_ne Dp).trans D1, sz_lt (by rw [List.length_map, pl]; unfold amK; rw [List.length_map, List.length_take]; omega), ((e1.trans e2).trans (Ex.new hp)).mut hD, ps ++ [p], ?_, ?_⟩
    · rw [upd_same, List.map_append]
      rfl
    · have e3 : amK (ks.take (i + 1)) f = amK (ks.take i) f ++ [((Sum.inr b : Key), V.int (f b))] := by
        rw [List.take_add_one, hb]
        unfold amK
        rw [List.map_append]
        rfl
      rw [e3]
      refine Paired.snoc (pairsE hpr fun q t hq => ?_) ?_
      · have q1 := e2 _ _ hq
        have qp : q ≠ p := fun e => by
          rw [e, hp] at q1
          exact nomatch q1
        have qD : q ≠ D := fun e => by
          rw [e, D1] at q1
          exact nomatch q1
        rw [upd_ne qD, upd_ne qp]
        exact q1
      · show (upd (upd Hc p (.tup [V.str b, V.int (f b)])) D (.lst (ps.map V.ref ++ [V.ref p]))) p = some (.tup [V.str b, V.int (f b)])
        rw [upd_ne (Ne.symm Dp), upd_same]
  · obtain ⟨e1, ps, hps, hpr⟩ := hP
    rw [hn, List.take_length] at hpr
    exact hd H' ps e1 hps hpr
/-- .. over a list of texts -/
theorem lc_pairs {K : PySem.W.Frag} {te0 : TE} {s : Nat} {vs : List Nat} {σ : L2.St} {H1 : Hp} {D kp : Addr} {Qd : Hp → Prop} {ks : List Str} {f : Str → Int} (hkp : H1 kp = some (.lst (ks.map V.str))) (hD : H1 D = none) (hl : ks.length ≤ 60)
    (hset : ∀ v, wipe ((wipe σ vs).set s (some v)) vs = wipe σ vs) (hget : ∀ v, ((wipe σ vs).set s (some v))[s]? = some (some v))
    (hs : ∀ b ∈ ks, ∀ Ha, Ex H1 Ha → ∀ R : VK, (∀ Hb, Ex Ha Hb → R (.int (f b)) Hb) → te0 ((wipe σ vs).set s (some (.str b))) Ha R)
    (hd : ∀ H' ps, Ex H1 H' → H' D = some (.lst (ps.map V.ref)) → Paired (fun p kv => H' p = some (.tup [kV kv.1, kv.2])) ps (amK ks f) → Qd H') :
    ∃ W : Nat → Nat → Hp → Prop, (∃ m, W 0 m (upd H1 D (.lst []))) ∧ ∀ i m H, W i m H → ((Itl K kp).stop i H ∧ Qd H) ∨ ((Itl K kp).go i H ∧ ∃ Nx : Hp → Prop, (∀ H', Nx H' → ∃ m', m' < m ∧ W (i + 1) m' H') ∧
      ∀ x H', (Itl K kp).yld i H x H' → gName s x (wipe σ vs) H' fun σ2 H2 => wipe σ2 vs = wipe σ vs ∧ tYes σ2 H2 fun b H3 => if b = true then tTup (tCons (tVar s) (tCons te0 tNil)) σ2 H3 fun y H4 => ∃ acc, H4 D = some (.lst acc) ∧ acc.length < sizeLine ∧ Nx (upd H4 D (.lst (acc ++ [y]))) else Nx H3) :=
  lc_pairsG (walk_list (xs := ks.map V.str)) (List.length_map ..) (fun H' e => SqL.of (e _ _ hkp)) (fun i Ha x Hb y g => by
    obtain ⟨rfl, hz⟩ := y
    rw [List.getElem?_map] at hz
    obtain ⟨b, hb, rfl⟩ := Option.map_eq_some_iff.mp hz
    exact ⟨rfl, b, hb, rfl⟩) hD hl hset hget hs hd
/-- .. over a dict of integers by texts, which is locked -/
theorem lc_pairsK {te0 : TE} {s : Nat} {vs : List Nat} {σ : L2.St} {H1 : Hp} {D d : Addr} {o : Obj} {Qd : Hp → Prop} {ks : List Str} {f f0 : Str → Int} (hkp : H1 d = some (.frz o (.dK (amK ks f0)))) (hD : H1 D = none) (hl : ks.length ≤ 60)
    (hset : ∀ v, wipe ((wipe σ vs).set s (some v)) vs = wipe σ vs) (hget : ∀ v, ((wipe σ vs).set s (some v))[s]? = some (some v))
    (hs : ∀ b ∈ ks, ∀ Ha, Ex H1 Ha → ∀ R : VK, (∀ Hb, Ex Ha Hb → R (.int (f b)) Hb) → te0 ((wipe σ vs).set s (some (.str b))) Ha R)
    (hd : ∀ H' ps, Ex H1 H' → H' D = some (.lst (ps.map V.ref)) → Paired (fun p kv => H' p = some (.tup [kV kv.1, kv.2])) ps (amK ks f) → Qd H') :
    ∃ W : Nat → Nat → Hp → Prop, (∃ m, W 0 m (upd H1 D (.lst []))) ∧ ∀ i m H, W i m H → ((Itk d o (amK ks f0)).stop i H ∧ Qd H) ∨ ((Itk d o (amK ks f0)).go i H ∧ ∃ Nx : Hp → Prop, (∀ H', Nx H' → ∃ m', m' < m ∧ W (i + 1) m' H') ∧
      ∀ x H', (Itk d o (amK ks f0)).yld i H x H' → gName s x (wipe σ vs) H' fun σ2 H2 => wipe σ2 vs = wipe σ vs ∧ tYes σ2 H2 fun b H3 => if b = true then tTup (tCons (tVar s) (tCons te0 tNil)) σ2 H3 fun y H4 => ∃ acc, H4 D = some (.lst acc) ∧ acc.length < sizeLine ∧ Nx (upd H4 D (.lst (acc ++ [y]))) else Nx H3) :=
  lc_pairsG walk_keys (by unfold amK; rw [List.length_map]) (fun H' e => e _ _ hkp) (fun i Ha x Hb y g => by
    obtain ⟨rfl, k, v, hz, rfl⟩ := y
    unfold amK at hz
    rw [List.getElem?_map] at hz
    obtain ⟨b, hb, e⟩ := Option.map_eq_some_iff.mp hz
    refine ⟨rfl, b, hb, ?_⟩
    rw [← (Prod.mk.inj e).1]
    rfl) hD hl hset hget hs hd
theorem pairsT {K : PySem.W.Frag} {X : Hp} {ps : List Addr} {kvs : List (Key × V)} (h : Paired (fun p kv => X p = some (.tup [kV kv.1, kv.2])) ps kvs) : Paired (fun p kv => SqT K X p [kV kv.1, kv.2]) ps kvs := by
  induction h with
  | nil => exact .nil
  | cons a _ ih => exact .cons (SqT.of a) ih
theorem PlainAt.places {H : Hp} {d : Addr} {ks : List Str} {zs : TL} (p : PlainAt H d ks zs) : ∃ kp, (∀ H', Ex H H' → DGet H' d (.str "places") (some (.ref kp))) ∧ H kp = some (.lst (ks.map V.str)) := by
  obtain ⟨⟨kp, tp, h1, h2, h3⟩, ta⟩ := p
  refine ⟨kp, fun H' e => ?_, h2⟩
  have z := DGet.k (k := Sum.inr "places") (e _ _ h1)
  rw [valV_pos rfl] at z
  exact z
theorem PlainAt.ties {H : Hp} {d : Addr} {ks : List Str} {zs : TL} (p : PlainAt H d ks zs) : ∃ tp, (∀ H', Ex H H' → DGet H' d (.str "ties") (some (.ref tp))) ∧ H tp = some (.lst (rf zs)) := by
  obtain ⟨⟨kp, tp, h1, h2, h3⟩, ta⟩ := p
  refine ⟨tp, fun H' e => ?_, h3⟩
  have z := DGet.k (k := Sum.inr "ties") (e _ _ h1)
  have ne : ¬ (Sum.inr ("places" : Str) : Key) = (Sum.inr ("ties" : Str) : Key) := by decide +kernel
  rw [valV_neg ne, valV_pos rfl] at z
  exact z
def spLNone : Sp := fun vs H Q _ => ∃ (d : Addr) (ks : List Str) (zs : TL), vs = [.ref d] ∧ PlainAt H d ks zs ∧ WebOk ks (zs.map (·.2)) ∧ ∀ p H', Ex H H' → H' p = some (.dK (amK ks fun _ => 0)) → H p = none → Q (.ref p) H'
section
variable {P : Program} {w : World} {K : PySem.W.Frag} {mg : Str → Option Value} {base : Heap}
theorem scLNone : FnScope NLn ["_law_plain_here"] (defScope sLNone) := ⟨rfl, rfl, rfl, by decide +kernel, rfl, by decide +kernel, by decide +kernel⟩
theorem ok_lnone {f : Addr} {fd : FuncData} (F : Fun K "_law_none" "_law_none" sLNone f fd) (gDi : mg "dict" = none) : FnOk P w K mg base CX0 1 f fd ["_law_plain_here"] spLNone := by
  have nd := scLNone.nd
  refine F.ok scLNone (fun vs H Q E h => ?_) (fun cdv A outer s H vs Q E hr h => ⟨_, (pss_one (ps_ret (pe_callTy (call_dictP rfl) (by rfl) gDi (by decide +kernel) (pa_cons (pe_lc (own := [("_law_place", 1)]) (g := gName 1) (tt := tYes) rfl nd (pi_list (pe_dget (units1 hr) (pv 0) pe_str (fun _ _ => rfl))) (blkOk_by (own := [("_law_place", 1)]) (N := NLn) (sc := defScope sLNone) (by decide +kernel)) (fun _ _ _ _ _ => (pg_name (i := 1) nd rfl (Or.inl rfl))) (fun _ _ _ _ _ => pts_nil) (fun _ _ _ _ _ => (pe_tup (pa_cons (pv 1) (pa_cons pe_int pa_nil))))) pa_nil)))), ?_⟩)
  · obtain ⟨d, ks, zs, rfl, _⟩ := h
    rfl
  · obtain ⟨d, ks, zs, rfl, pl, ok, k⟩ := h
    walk_at "rd"
    refine Rd.lcm' (Rd.ilist' ?_)
    unfold tDGet
    walk_at "rd"
    obtain ⟨kp, gk, hkp⟩ := pl.places
    refine ⟨d, _, rfl, gk H (Ex.refl H), kp, rfl, ⟨_, SqL.of hkp⟩, fun D hD => ?_⟩
    refine lc_pairs (f := fun _ => 0) hkp hD (by have := ok.nine; omega) (fun _ => rfl) (fun _ => rfl) (fun b hb Ha ea R hR => hR Ha (Ex.refl Ha)) (fun H' ps e1 hps hpr => ?_)
    refine ⟨D, ps, amK ks fun _ => 0, rfl, SqL.of hps, pairsT hpr, fun p hp => ?_⟩
    rw [merge_amK (asc_nodup ok.asc)]
    exact k p _ (e1.trans (Ex.new hp)) upd_same (none_ex e1 hp)
end
end OwW


namespace OwW
open PySem PyProof.Rows L2 L2H OwX Rd Evl
/-- 1 more at y, 1 less at x -/
def stepF (x y o : Str) : Int := (if o = y then 1 else 0) - (if o = x then 1 else 0)
def spLStep : Sp := fun vs H Q _ => ∃ (d : Addr) (x y : Str) (ks : List Str) (zs : TL), vs = [.ref d, .str x, .str y] ∧ PlainAt H d ks zs ∧ WebOk ks (zs.map (·.2)) ∧ ∀ p H', Ex H H' → H' p = some (.dK (amK ks (stepF x y))) → H p = none → Q (.ref p) H'
theorem dec_str (b x : Str) : decide (V.str b = V.str x) = decide (b = x) := by by_cases c : b = x <;> simp [c]
abbrev sLAdded : Stmt := top 59
abbrev NLd : List Str := ["_law_one", "_law_other", "_law_times", "_law_place"]
theorem dgetF {H : Hp} {a : Addr} {o : Obj} {kvs : List (Key × V)} {k : Key} (e : H a = some (.frz o (.dK kvs))) : DGet H a (kV k) (valV kvs k) := .inl ⟨kvs, k, .inr ⟨_, e⟩, rfl, rfl⟩
/-- the sum with so many times others -/
def spLAdded : Sp := fun vs H Q _ => ∃ (a b : Addr) (n : Int) (ks : List Str) (f g : Str → Int), vs = [.ref a, .ref b, .int n] ∧ n.natAbs ≤ 1000 ∧ a ≠ b ∧ H a = some (.dK (amK ks f)) ∧ H b = some (.dK (amK ks g)) ∧ ks.Nodup ∧ ks.length ≤ 9 ∧ ∀ p H', Ex H H' → H' p = some (.dK (amK ks fun k => f k + n * g k)) → H p = none → Q (.ref p) H'
section
variable {P : Program} {w : World} {K : PySem.W.Frag} {mg : Str → Option Value} {base : Heap}
theorem scLStep : FnScope NLs ["_law_plain_here", "_law_giver", "_law_taker"] (defScope sLStep) := ⟨rfl, rfl, rfl, by decide +kernel, rfl, by decide +kernel, by decide +kernel⟩
theorem ok_lstep {f : Addr} {fd : FuncData} (F : Fun K "_law_step" "_law_step" sLStep f fd) (gDi : mg "dict" = none) (gIn : mg "int" = none) : FnOk P w K mg base CX0 1 f fd ["_law_plain_here", "_law_giver", "_law_taker"] spLStep := by
  have nd := scLStep.nd
  refine F.ok scLStep (fun vs H Q E h => ?_) (fun cdv A outer s H vs Q E hr h => ⟨_, (pss_one (ps_ret (pe_callTy (call_dictP rfl) (by rfl) gDi (by decide +kernel) (pa_cons (pe_lc (own := [("_law_place", 3)]) (g := gName 3) (tt := tYes) rfl nd (pi_list (pe_dget (units1 hr) (pv 0) pe_str (fun _ _ => rfl))) (blkOk_by (own := [("_law_place", 3)]) (N := NLs) (sc := defScope sLStep) (by decide +kernel)) (fun _ _ _ _ _ => (pg_name (i := 3) nd rfl (Or.inl rfl))) (fun _ _ _ _ _ => pts_nil) (fun _ _ _ _ _ => (pe_tup (pa_cons (pv 3) (pa_cons (pe_op op_sub (pe_callTy call_int1 (by rfl) gIn (by decide +kernel) (pa_cons (pe_cmpR op_eq (pv 3) (pv 2) (nomark _)) pa_nil)) (pe_callTy call_int1 (by rfl) gIn (by decide +kernel) (pa_cons (pe_cmpR op_eq (pv 3) (pv 1) (nomark _)) pa_nil))) pa_nil))))) pa_nil)))), ?_⟩)
  · obtain ⟨d, x, y, ks, zs, rfl, _⟩ := h
    rfl
  · obtain ⟨d, x, y, ks, zs, rfl, pl, ok, k⟩ := h
    walk_at "rd"
    refine Rd.lcm' (Rd.ilist' ?_)
    unfold tDGet
    walk_at "rd"
    obtain ⟨kp, gk, hkp⟩ := pl.places
    refine ⟨d, _, rfl, gk H (Ex.refl H), kp, rfl, ⟨_, SqL.of hkp⟩, fun D hD => ?_⟩
    refine lc_pairs (f := stepF x y) hkp hD (by have := ok.nine; omega) (fun _ => rfl) (fun _ => rfl) (fun b hb Ha ea R hR => ?_) (fun H' ps e1 hps hpr => ?_)
    · walk_at "rd"
      refine ⟨rfl, ?_⟩
      walk_at "rd"
      refine Or.inr ⟨_, rfl, ?_⟩
      walk_at "rd"
      refine ⟨rfl, ?_⟩
      walk_at "rd"
      refine Or.inr ⟨_, rfl, ?_⟩
      refine ⟨_, _, rfl, rfl, ?_⟩
      have z := hR Ha (Ex.refl Ha)
      unfold stepF at z
      rw [dec_str, dec_str]
      simp only [decide_eq_true_eq]
      exact z
    · refine ⟨D, ps, amK ks (stepF x y), rfl, SqL.of hps, pairsT hpr, fun p hp => ?_⟩
      rw [merge_amK (asc_nodup ok.asc)]
      exact k p _ (e1.trans (Ex.new hp)) upd_same (none_ex e1 hp)
theorem scLAdded : FnScope NLd ["_law_one", "_law_other", "_law_times"] (defScope sLAdded) := ⟨rfl, rfl, rfl, by decide +kernel, rfl, by decide +kernel, by decide +kernel⟩
theorem ok_ladded {f : Addr} {fd : FuncData} (F : Fun K "_law_added" "_law_added" sLAdded f fd) (gDi : mg "dict" = none) : FnOk P w K mg base CX0 1 f fd ["_law_one", "_law_other", "_law_times"] spLAdded := by
  have nd := scLAdded.nd
  refine F.ok scLAdded (fun vs H Q E h => ?_) (fun cdv A outer s H vs Q E hr h => ⟨_, (pss_one (ps_ret (pe_callTy (call_dictP rfl) (by rfl) gDi (by decide +kernel) (pa_cons (pe_lock (pe_lc (own := [("_law_place", 3)]) (g := gName 3) (tt := tYes) rfl nd (pi_keys (pv 0)) (blkOk_by (own := [("_law_place", 3)]) (N := NLd) (sc := defScope sLAdded) (by decide +kernel)) (fun _ _ _ _ _ => (pg_name (i := 3) nd rfl (Or.inl rfl))) (fun _ _ _ _ _ => pts_nil) (fun _ _ _ _ _ => (pe_tup (pa_cons (pv 3) (pa_cons (pe_op op_add (pe_dget (units1 hr) (pv 0) (pv 3) (fun _ _ => rfl)) (pe_op op_mul (pv 2) (pe_dget (units1 hr) (pv 1) (pv 3) (fun _ _ => rfl)))) pa_nil)))))) pa_nil)))), ?_⟩)
  · obtain ⟨a, b, n, ks, f, g, rfl, _⟩ := h
    rfl
  · obtain ⟨a, b, n, ks, fn, gn, rfl, nb, nab, ha, hb, nk, k9, k⟩ := h
    walk_at "rd"
    refine ⟨a, .dK (amK ks fn), ha, trivial, fun od => ?_⟩
    have La : (upd H a (.frz od (.dK (amK ks fn)))) a = some (.frz od (.dK (amK ks fn))) := upd_same
    have Lb : (upd H a (.frz od (.dK (amK ks fn)))) b = some (.dK (amK ks gn)) := (upd_ne (Ne.symm nab)).trans hb
    have eL : Ex (wo a H) (upd H a (.frz od (.dK (amK ks fn)))) := fun q o hq => by
      have na : q ≠ a := fun e => by
        rw [e] at hq
        unfold wo at hq
        rw [if_pos rfl] at hq
        exact nomatch hq
      exact (upd_ne na).trans (wo_in a _ _ _ hq)
    have nL : ∀ q, (upd H a (.frz od (.dK (amK ks fn)))) q = none → H q = none := fun q hq => by
      have na : q ≠ a := fun e => by
        rw [e, La] at hq
        exact nomatch hq
      rw [upd_ne na] at hq
      exact hq
    generalize upd H a (.frz od (.dK (amK ks fn))) = L at La Lb eL nL ⊢
    refine Rd.lcm' ?_
    unfold iKeys
    walk_at "rd"
    refine ⟨a, od, rfl, Or.inl ⟨_, La, fun D hD => ?_⟩⟩
    refine lc_pairsK (f := fun k => fn k + n * gn k) La hD (by omega) (fun _ => rfl) (fun _ => rfl) (fun x hx Ha ea R hR => ?_) (fun H' ps e1 hps hpr => ?_)
    · unfold tOp tDGet
      walk_at "rd"
      have g1 := dgetF (k := Sum.inr x) (ea _ _ La)
      rw [amK_some hx] at g1
      refine ⟨a, _, rfl, g1, ?_⟩
      walk_at "rd"
      have g2 := DGet.k (k := Sum.inr x) (ea _ _ Lb)
      rw [amK_some hx] at g2
      refine ⟨b, _, rfl, g2, ?_⟩
      refine Rd.ic (Or.inl ⟨by omega, by omega⟩) ?_
      exact ⟨_, _, rfl, rfl, hR Ha (Ex.refl Ha)⟩
    · refine ⟨e1 _ _ La, ?_⟩
      walk_at "rd"
      have Da : D ≠ a := fun e => by
        rw [e, La] at hD
        exact nomatch hD
      have EE : Ex H (upd H' a (.dK (amK ks fn))) := fun q o hq => by
        by_cases e : q = a
        · rw [e] at hq ⊢
          rw [ha] at hq
          cases hq
          exact upd_same
        · exact (upd_ne e).trans (e1 _ _ (eL _ _ (wo_of hq e)))
      refine ⟨D, ps, amK ks fun k => fn k + n * gn k, rfl, SqL.of ((upd_ne Da).trans hps), pairsT (pairsE hpr fun q t hq => ?_), fun p hp => ?_⟩
      · have qa : q ≠ a := fun e => by
          rw [e, e1 _ _ La] at hq
          exact nomatch hq
        exact (upd_ne qa).trans hq
      · rw [merge_amK nk]
        exact k p _ (EE.trans (Ex.new hp)) upd_same (none_ex EE hp)
end
end OwW


namespace OwW
open PySem PyProof.Rows L2 L2H OwX Rd Evl
abbrev sLAfter : Stmt := top 60
abbrev NLa2 : List Str := ["_law_plain_here", "_law_debts_here", "_law_plan", "_law_found", "_law_a", "_law_b", "_law_place"]
theorem lent_nil (am pl : Str → Int) (k : Str) : lentF [] am pl k = am k := by
  unfold lentF endsL
  simp
theorem lent_snoc (ts : List (Str × Str)) (t : Str × Str) (am pl : Str → Int) (k : Str) : lentF (ts ++ [t]) am pl k = lentF ts am pl k + (if hits k t = true then pl (far k t) - pl k else 0) := by
  unfold lentF endsL
  rw [List.filter_append, List.map_append, List.length_append, List.map_append, List.sum_append]
  by_cases c : hits k t = true
  · rw [if_pos c]
    have e : List.filter (hits k) [t] = [t] := by simp [c]
    rw [e]
    simp only [List.map_cons, List.map_nil, List.length_cons, List.length_nil, List.sum_cons, List.sum_nil]
    push_cast
    rw [Int.add_mul]
    omega
  · rw [if_neg c]
    have e : List.filter (hits k) [t] = [] := by simp [c]
    rw [e]
    simp
/-- one tie's part of a plan -/
def tieF (pl : Str → Int) (t : Str × Str) (g : Str → Int) : Str → Int := updF (updF g t.1 (g t.1 + pl t.2 - pl t.1)) t.2 (updF g t.1 (g t.1 + pl t.2 - pl t.1) t.2 + pl t.1 - pl t.2)
theorem tie_lent (ts : List (Str × Str)) (t : Str × Str) (am pl : Str → Int) (h : t.1 ≠ t.2) : tieF pl t (lentF ts am pl) = lentF (ts ++ [t]) am pl := by
  funext k
  rw [lent_snoc]
  unfold tieF updF hits far
  by_cases c1 : t.1 = k
  · subst c1
    have n : ¬ t.1 = t.2 := h
    simp only [n, if_false, if_true, decide_true, Bool.true_or]
    omega
  · by_cases c2 : t.2 = k
    · subst c2
      have n : ¬ t.2 = t.1 := fun e => h e.symm
      simp only [n, h, if_false, if_true, decide_true, decide_false, Bool.or_true]
      omega
    · have n1 : ¬ k = t.1 := fun e => c1 e.symm
      have n2 : ¬ k = t.2 := fun e => c2 e.symm
      simp [c1, c2, n1, n2]
theorem lt_ne {a b : Str} (h : OwL2.lt a b = true) : a ≠ b := fun e => by
  rw [e, lt_irr] at h
  exact nomatch h
def spLAfter : Sp := fun vs H Q _ => ∃ (d m1 m2 : Addr) (ks : List Str) (zs : TL) (f pl : Str → Int), vs = [.ref d, .ref m1, .ref m2] ∧ PlainAt H d ks zs ∧ WebOk ks (zs.map (·.2)) ∧ Has H m1 ks f ∧ Has H m2 ks pl ∧
  ∀ p H', Ex H H' → H' p = some (.dK (amK ks (lentF (zs.map (·.2)) f pl))) → H p = none → Q (.ref p) H'
section
variable {P : Program} {w : World} {K : PySem.W.Frag} {mg : Str → Option Value} {base : Heap}
theorem scLAfter : FnScope NLa2 ["_law_plain_here", "_law_debts_here", "_law_plan"] (defScope sLAfter) := ⟨rfl, rfl, rfl, by decide +kernel, rfl, by decide +kernel, by decide +kernel⟩
theorem ok_lafter {f : Addr} {fd : FuncData} (F : Fun K "_law_after" "_law_after" sLAfter f fd) (gDi : mg "dict" = none) : FnOk P w K mg base CX0 1 f fd ["_law_plain_here", "_law_debts_here", "_law_plan"] spLAfter := by
  have nd := scLAfter.nd
  refine F.ok scLAfter (fun vs H Q E h => ?_) (fun cdv A outer s H vs Q E hr h => ⟨_, (pss_cons (ps_set (i := 3) nd rfl (Or.inl rfl) (pe_callTy (call_dictP rfl) (by rfl) gDi (by decide +kernel) (pa_cons (pe_lc (own := [("_law_place", 6)]) (g := gName 6) (tt := tYes) rfl nd (pi_list (pe_dget (units1 hr) (pv 0) pe_str (fun _ _ => rfl))) (blkOk_by (own := [("_law_place", 6)]) (N := NLa2) (sc := defScope sLAfter) (by decide +kernel)) (fun _ _ _ _ _ => (pg_name (i := 6) nd rfl (Or.inl rfl))) (fun _ _ _ _ _ => pts_nil) (fun _ _ _ _ _ => (pe_tup (pa_cons (pv 6) (pa_cons (pe_dget (units1 hr) (pv 1) (pv 6) (fun _ _ => rfl)) pa_nil))))) pa_nil)))
    (pss_cons (ps_for PassesOwn.never rfl (pi_list (pe_dget (units1 hr) (pv 0) pe_str (fun _ _ => rfl))) (pg_tup rfl (pgs_cons (pg_name (i := 4) nd rfl (Or.inl rfl)) (pgs_cons (pg_name (i := 5) nd rfl (Or.inl rfl)) pgs_nil))) (pss_cons (ps_asg (pe_op op_sub (pe_op op_add (pe_dget (units1 hr) (pv 3) (pv 4) (fun _ _ => rfl)) (pe_dget (units1 hr) (pv 2) (pv 5) (fun _ _ => rfl))) (pe_dget (units1 hr) (pv 2) (pv 4) (fun _ _ => rfl))) (pg_sub (pv 3) (pv 4) (L2.set_dict (units1 hr))))
    (pss_one (ps_asg (pe_op op_sub (pe_op op_add (pe_dget (units1 hr) (pv 3) (pv 5) (fun _ _ => rfl)) (pe_dget (units1 hr) (pv 2) (pv 4) (fun _ _ => rfl))) (pe_dget (units1 hr) (pv 2) (pv 5) (fun _ _ => rfl))) (pg_sub (pv 3) (pv 5) (L2.set_dict (units1 hr)))))))
    (pss_one (ps_ret (pv 3))))), ?_⟩)
  · obtain ⟨d, m1, m2, ks, zs, fn, pl, rfl, _⟩ := h
    rfl
  · obtain ⟨d, m1, m2, ks, zs, fn, pl, rfl, pa, ok, h1, h2, k⟩ := h
    have k9 := ok.nine
    walk_at "rd"
    refine Rd.lcm' (Rd.ilist' ?_)
    unfold tDGet
    walk_at "rd"
    obtain ⟨kp, gk, hkp⟩ := pa.places
    obtain ⟨tp, gt, htp⟩ := pa.ties
    refine ⟨d, _, rfl, gk H (Ex.refl H), kp, rfl, ⟨_, SqL.of hkp⟩, fun D hD => ?_⟩
    refine lc_pairs (f := fn) hkp hD (by omega) (fun _ => rfl) (fun _ => rfl) (fun b hb Ha ea R hR => ?_) (fun H' ps e1 hps hpr => ?_)
    · walk_at "rd"
      exact ⟨m1, _, rfl, h1.get ea hb, hR Ha (Ex.refl Ha)⟩
    · refine ⟨D, ps, amK ks fn, rfl, SqL.of hps, pairsT hpr, fun L hL => ?_⟩
      rw [merge_amK (asc_nodup ok.asc)]
      have LH := none_ex e1 hL
      have e2 : Ex H (upd H' L (.dK (amK ks fn))) := e1.trans (Ex.new hL)
      have l2 : (upd H' L (.dK (amK ks fn))) L = some (.dK (amK ks fn)) := upd_same
      generalize upd H' L (.dK (amK ks fn)) = H2 at e2 l2 ⊢
      walk_at "rd"
      with_reducible refine Rd.for' ?_
      refine Rd.ilist' ?_
      walk_at "rd"
      refine ⟨d, _, rfl, gt H2 e2, tp, rfl, ⟨_, SqL.of (e2 _ _ htp)⟩, ?_⟩
      refine for_it (walk_list (xs := rf zs)) (fun i σ H' => ∃ x y : Option V, σ = [some (.ref d), some (.ref m1), some (.ref m2), some (.ref L), x, y, none] ∧ Ex H H' ∧ H' L = some (.dK (amK ks (lentF ((zs.map (·.2)).take i) fn pl)))) ⟨none, none, rfl, e2, by rw [List.take_zero, show lentF [] fn pl = fn from funext (lent_nil fn pl)]; exact l2⟩ (fun i σ H' _ hP => ?_) (fun i z σ H3 H4 hi hP hY => ?_) (fun σ H3 hP => ?_)
      · obtain ⟨_, _, _, e3, _⟩ := hP
        exact SqL.of (e3 _ _ htp)
      · obtain ⟨x, y, rfl, e3, l3⟩ := hP
        obtain ⟨rfl, hz⟩ := hY
        rw [List.getElem?_map] at hz
        cases ht : zs[i]? with
        | none => rw [ht] at hz; exact nomatch hz
        | some t =>
          rw [ht] at hz
          cases hz
          have ti := List.mem_of_getElem? ht
          have tm := pa.ta.ex e3 t ti
          have te := ok.ends t.2 (List.mem_map.mpr ⟨t, ti, rfl⟩)
          have ak := te.1
          have bk := te.2.1
          refine ⟨t.1, [.str t.2.1, .str t.2.2], rfl, SqT.of tm, rfl, .str t.2.1, [.str t.2.2], rfl, ?_⟩
          walk_at "rd"
          refine ⟨.str t.2.2, [], rfl, ?_⟩
          walk_at "rd"
          refine ⟨rfl, ?_⟩
          walk_at "rd"
          have g1 := DGet.k (k := Sum.inr t.2.1) l3
          rw [amK_some ak] at g1
          refine ⟨L, _, rfl, g1, ?_⟩
          walk_at "rd"
          refine ⟨m2, _, rfl, h2.get e3 bk, ?_⟩
          walk_at "rd"
          refine ⟨m2, _, rfl, h2.get e3 ak, ?_⟩
          walk_at "rd"
          refine ⟨L, _, rfl, DPut.k (k := Sum.inr t.2.1) l3 (sz_lt (by unfold amK; rw [List.length_map]; omega)), ?_⟩
          rw [amK_put ak]
          have e4 := e3.mut (o := .dK (amK ks (updF (lentF ((zs.map (·.2)).take i) fn pl) t.2.1 (lentF ((zs.map (·.2)).take i) fn pl t.2.1 + pl t.2.2 - pl t.2.1)))) LH
          have l4 : (upd H4 L (.dK (amK ks (updF (lentF ((zs.map (·.2)).take i) fn pl) t.2.1 (lentF ((zs.map (·.2)).take i) fn pl t.2.1 + pl t.2.2 - pl t.2.1))))) L = some (.dK (amK ks (updF (lentF ((zs.map (·.2)).take i) fn pl) t.2.1 (lentF ((zs.map (·.2)).take i) fn pl t.2.1 + pl t.2.2 - pl t.2.1)))) := upd_same
          generalize upd H4 L (.dK (amK ks (updF (lentF ((zs.map (·.2)).take i) fn pl) t.2.1 (lentF ((zs.map (·.2)).take i) fn pl t.2.1 + pl t.2.2 - pl t.2.1)))) = H5 at e4 l4 ⊢
          walk_at "rd"
          have g2 := DGet.k (k := Sum.inr t.2.2) l4
          rw [amK_some bk] at g2
          refine ⟨L, _, rfl, g2, ?_⟩
          walk_at "rd"
          refine ⟨m2, _, rfl, h2.get e4 ak, ?_⟩
          walk_at "rd"
          refine ⟨m2, _, rfl, h2.get e4 bk, ?_⟩
          walk_at "rd"
          refine ⟨L, _, rfl, DPut.k (k := Sum.inr t.2.2) l4 (sz_lt (by unfold amK; rw [List.length_map]; omega)), ?_⟩
          rw [amK_put bk]
          refine ⟨_, _, rfl, e4.mut LH, ?_⟩
          have tk : (zs.map (·.2)).take (i + 1) = (zs.map (·.2)).take i ++ [t.2] := by
            rw [List.take_add_one, List.getElem?_map, ht]
            rfl
          rw [tk, ← tie_lent _ t.2 fn pl (lt_ne te.2.2), upd_same]
          rfl
      · obtain ⟨x, y, rfl, e3, l3⟩ := hP
        have zl : (rf zs).length = (zs.map (·.2)).length := by unfold rf; rw [List.length_map, List.length_map]
        rw [zl, List.take_length] at l3
        walk_at "rd"
        exact k L _ e3 l3 LH
end
end OwW


namespace OwW
open PySem PyProof.Rows L2 L2H OwX Rd Evl
abbrev sLLent : Stmt := top 61
abbrev NLl : List Str := ["_law_plain_here", "_law_debts_here", "_law_places", "_law_times", "_law_place"]
abbrev sLDMade : Stmt := top 62
theorem lentF_congr {ts : List (Str × Str)} {am pl pl' : Str → Int} (h : ∀ k, pl k = pl' k) : lentF ts am pl = lentF ts am pl' := by
  have e : pl = pl' := funext h
  rw [e]
def spLLent : Sp := fun vs H Q _ => ∃ (d m1 p : Addr) (n : Int) (ks es : List Str) (zs : TL) (f : Str → Int), vs = [.ref d, .ref m1, .ref p, .int n] ∧ PlainAt H d ks zs ∧ WebOk ks (zs.map (·.2)) ∧ Has H m1 ks f ∧ H p = some (.lst (es.map V.str)) ∧ n.natAbs ≤ 1000 ∧
  ∀ q H', Ex H H' → H' q = some (.dK (amK ks (lentF (zs.map (·.2)) f fun k => n * setF es k))) → H q = none → Q (.ref q) H'
/-- _law_debts_made -/
def spLDMade (CW CD : Addr) : Sp := fun vs H Q _ => ∃ (d m : Addr) (ks : List Str) (zs : TL) (f : Str → Int), vs = [.ref d, .ref m] ∧ PlainAt H d ks zs ∧ WebOk ks (zs.map (·.2)) ∧ Nums H m ks f ∧ ∀ a wb H', Ex H H' → IsDebts CW CD H' a wb ks zs f → H a = none → Q (.ref a) H'
section
variable {P : Program} {w : World} {K : PySem.W.Frag} {mg : Str → Option Value} {base : Heap}
theorem scLLent : FnScope NLl ["_law_plain_here", "_law_debts_here", "_law_places", "_law_times"] (defScope sLLent) := ⟨rfl, rfl, rfl, by decide +kernel, rfl, by decide +kernel, by decide +kernel⟩
theorem ok_llent {f g : Addr} {fd gd : FuncData} (F : Fun K "_law_lent" "_law_lent" sLLent f fd) (FA : Fun K "_law_after" "_law_after" sLAfter g gd) (gA : mg "_law_after" = some (.ref g)) (GA : FnOk P w K mg base CX0 1 g gd ["_law_plain_here", "_law_debts_here", "_law_plan"] spLAfter) (gDi : mg "dict" = none) (gIn : mg "int" = none) : FnOk P w K mg base CX0 2 f fd ["_law_plain_here", "_law_debts_here", "_law_places", "_law_times"] spLLent := by
  have nd := scLLent.nd
  have bA : Binds K gd ["_law_plain_here", "_law_debts_here", "_law_plan"] [] := FA.binds fun _ _ _ _ _ _ us hl => match us, hl with | [_, _, _], _ => rfl
  refine F.ok scLLent (fun vs H Q E h => ?_) (fun cdv A outer s H vs Q E hr h => ⟨_, (pss_one (ps_ret (pe_call GA (hr.mono (by decide)) (by rfl) gA FA.kp bA .nil pass0 (pa_cons (pv 0) (pa_cons (pv 1) (pa_cons (pe_callTy (call_dictP rfl) (by rfl) gDi (by decide +kernel) (pa_cons (pe_lc (own := [("_law_place", 4)]) (g := gName 4) (tt := tYes) (te := tTup (tCons (tVar 4) (tCons (tOp (rI CMul fun i j => .int (i * j)) (tVar 3) (tCB (fun xs H Q => (∃ i, xs = [.int i] ∧ Q (.int i) H) ∨ ∃ k, xs = [.bl k] ∧ Q (.int (if k then 1 else 0)) H) (tCons (tOp (rIn K false) (tVar 4) (tVar 2)) tNil))) tNil))) rfl nd (pi_list (pe_dget (units1 hr) (pv 0) pe_str (fun _ _ => rfl))) (blkOk_by (own := [("_law_place", 4)]) (N := NLl) (sc := defScope sLLent) (by decide +kernel)) (fun _ _ _ _ _ => (pg_name (i := 4) nd rfl (Or.inl rfl))) (fun _ _ _ _ _ => pts_nil) (fun _ _ _ _ _ => (pe_tup (pa_cons (pv 4) (pa_cons (pe_op op_mul (pv 3) (pe_callTy call_int1 (by rfl) gIn (by decide +kernel) (pa_cons (pe_cmpR op_in_seq (pv 4) (pv 2) (by with_unfolding_all rfl)) pa_nil))) pa_nil))))) pa_nil)) pa_nil)))))), ?_⟩)
  · obtain ⟨d, m1, p, n, ks, es, zs, fn, rfl, _⟩ := h
    rfl
  · obtain ⟨d, m1, p, n, ks, es, zs, fn, rfl, pa, ok, h1, hp, nb, k⟩ := h
    have k9 := ok.nine
    walk_at "rd"
    refine Rd.lcm' (Rd.ilist' ?_)
    unfold tDGet
    walk_at "rd"
    obtain ⟨kp, gk, hkp⟩ := pa.places
    refine ⟨d, _, rfl, gk H (Ex.refl H), kp, rfl, ⟨_, SqL.of hkp⟩, fun D hD => ?_⟩
    refine lc_pairs (f := fun k => n * setF es k) hkp hD (by omega) (fun _ => rfl) (fun _ => rfl) (fun b hb Ha ea R hR => ?_) (fun H' ps e1 hps hpr => ?_)
    · walk_at "rd"
      refine ⟨p, _, rfl, Or.inl (SqL.of (ea _ _ hp)), rfl, flat_strs es, ?_⟩
      rw [if_neg (by decide), in_strs']
      walk_at "rd"
      refine Or.inr ⟨_, rfl, ?_⟩
      refine Rd.ic (Or.inl ⟨by omega, by omega⟩) ?_
      have z := hR Ha (Ex.refl Ha)
      unfold setF at z
      simp only [decide_eq_true_eq]
      exact z
    · refine ⟨D, ps, amK ks (fun k => n * setF es k), rfl, SqL.of hps, pairsT hpr, fun L hL => ?_⟩
      rw [merge_amK (asc_nodup ok.asc)]
      have e2 : Ex H (upd H' L (.dK (amK ks fun k => n * setF es k))) := e1.trans (Ex.new hL)
      have l2 : (upd H' L (.dK (amK ks fun k => n * setF es k))) L = some (.dK (amK ks fun k => n * setF es k)) := upd_same
      generalize upd H' L (.dK (amK ks fun k => n * setF es k)) = H2 at e2 l2 ⊢
      walk_at "rd"
      exact ⟨d, m1, L, ks, zs, fn, fun k => n * setF es k, rfl, pa.ex e2, ok, h1.ex e2, ⟨_, l2, fun o ho => amK_some ho⟩, fun q H3 e3 hq nq => k q H3 (e2.trans e3) hq (none_ex e2 nq)⟩
theorem scLDMade : FnScope ["_law_plain_here", "_law_debts_here"] ["_law_plain_here", "_law_debts_here"] (defScope sLDMade) := ⟨rfl, rfl, rfl, by decide +kernel, rfl, by decide +kernel, by decide +kernel⟩
theorem ok_ldmade {f g gi CW CD : Addr} {fd gd gid : FuncData} (F : Fun K "_law_debts_made" "_law_debts_made" sLDMade f fd) (FM : Fun K "_law_made" "_law_made" sMade g gd) (gM : mg "_law_made" = some (.ref g)) (GM : FnOk P w K mg base CX0 8 g gd ["_law_plain_here"] (spMade CW))
    (FI : Fun K "__init__" "Debts.__init__" sDInit gi gid) (M : Mk K CD gi) (gD : mg "Debts" = some (.ref CD)) (GI : FnOk P w K mg base CX0 4 gi gid ["self", "web", "amounts"] (spDInit CW CD)) : FnOk P w K mg base CX0 9 f fd ["_law_plain_here", "_law_debts_here"] (spLDMade CW CD) := by
  have nd := scLDMade.nd
  have bM : Binds K gd ["_law_plain_here"] [] := FM.binds fun _ _ _ _ _ _ us hl => match us, hl with | [_], _ => rfl
  have bI : Binds K gid ["self", "web", "amounts"] [] := FI.binds fun _ _ _ _ _ _ us hl => match us, hl with | [_, _, _], _ => rfl
  refine F.ok scLDMade (fun vs H Q E h => ?_) (fun cdv A outer s H vs Q E hr h => ⟨_, (pss_one (ps_ret (pe_make M GI (hr.mono (by decide)) (by rfl) gD bI .nil pass0 (pa_cons (pe_call GM (hr.mono (by decide)) (by rfl) gM FM.kp bM .nil pass0 (pa_cons (pv 0) pa_nil)) (pa_cons (pv 1) pa_nil))))), ?_⟩)
  · obtain ⟨d, m, ks, zs, fn, rfl, _⟩ := h
    rfl
  · obtain ⟨d, m, ks, zs, fn, rfl, pa, ok, hn, k⟩ := h
    walk_at "rd"
    unfold tMake
    walk_at "rd"
    refine ⟨d, ks, zs, rfl, pa, ok, fun wb H1 e1 hw nw => ?_⟩
    walk_at "rd"
    refine fun x dx hx hdx nx => ?_
    refine ⟨x, wb, m, dx, ks, zs, fn, H1, rfl, hx, ((Ex.refl H1).mut hdx).mut hx, upd_same, hw, hn.ex e1, fun H2 e2 db => ⟨rfl, ?_⟩⟩
    exact k x wb H2 (e1.trans e2) db (none_ex e1 hx)
end
end OwW


namespace OwW
open PySem PyProof.Rows L2 L2H OwX Rd Evl
abbrev sLIsD : Stmt := top 63
abbrev NLi : List Str := ["_law_told", "_law_plain_here", "_law_debts_here", "_law_place"]
def kdsOf (ks : List Str) (f : Str → Int) : List (PyData × PyData) := ks.map fun k => (PyData.str k, PyData.int (f k))
theorem kds_keys {K : PySem.W.Frag} {H : Hp} {f : Str → Int} : ∀ ks : List Str, DqAll K H ((amK ks f).map fun p => kV p.1) ((kdsOf ks f).map (·.1))
  | [] => .nil
  | k :: ks => .cons (.str k) (kds_keys ks)
theorem kds_vals {K : PySem.W.Frag} {H : Hp} {f : Str → Int} : ∀ ks : List Str, DqAll K H ((amK ks f).map (·.2)) ((kdsOf ks f).map (·.2))
  | [] => .nil
  | k :: ks => .cons (.int (f k)) (kds_vals ks)
theorem kds_showable {f : Str → Int} : ∀ ks : List Str, (∀ k ∈ ks, (f k).natAbs.log2 < 1920) → PyData.showableKv (kdsOf ks f) = true
  | [], _ => rfl
  | k :: ks, h => by
    have a := h k List.mem_cons_self
    have b := kds_showable ks fun j hj => h j (List.mem_cons_of_mem _ hj)
    show (PyData.showable (.str k) && PyData.showable (.int (f k)) && PyData.showableKv (kdsOf ks f)) = true
    rw [b]
    simp [PyData.showable, a]
theorem kds_depth {f : Str → Int} : ∀ ks : List Str, PyData.depthKv (kdsOf ks f) = 0
  | [] => rfl
  | k :: ks => by
    show max (max (PyData.depth (.str k)) (PyData.depth (.int (f k)))) (PyData.depthKv (kdsOf ks f)) = 0
    rw [kds_depth ks]
    simp [PyData.depth]
theorem let_small {c : Nat} (h : letB c = true) : c ≤ 122 := by
  unfold letB at h
  simp only [Bool.and_eq_true, Bool.not_eq_true', decide_eq_false_iff_not] at h
  have z := h.2
  have e1 : ("z" : Str).cps.toList = [122] := by decide +kernel
  rw [e1] at z
  rcases Nat.lt_or_ge 122 c with y | y
  · exact absurd (List.Lex.rel y) z
  · exact y
theorem name_codes {x : Str} (h : nameB x = true) : ∀ c ∈ x.cps.toList, c < 16 ^ 8 := by
  intro c hc
  unfold nameB at h
  rw [Bool.and_eq_true] at h
  have z := h.2
  rw [List.all_eq_true] at z
  obtain ⟨i, hi, e⟩ := List.getElem_of_mem hc
  have hi' : i < x.cps.size := by simpa using hi
  have y := z (letB (x.cps.getD i 0)) (List.mem_map.mpr ⟨i, List.mem_range.mpr hi', rfl⟩)
  have e3 : x.cps.getD i 0 = c := by
    rw [← e]
    simp [Array.getD, hi']
  rw [e3] at y
  have w := let_small (show letB c = true from y)
  omega
theorem name_len {x : Str} (h : nameB x = true) : x.length ≤ 8 := by
  unfold nameB at h
  simp only [Bool.and_eq_true, decide_eq_true_eq] at h
  exact h.1.2
theorem shown_len {f : Str → Int} : ∀ ks : List Str, (∀ k ∈ ks, nameB k = true) → (∀ k ∈ ks, (f k).natAbs < 10 ^ 60) → ((PyData.shownKv (kdsOf ks f)).map (·.length)).sum ≤ 200 * ks.length ∧ (PyData.shownKv (kdsOf ks f)).length = ks.length
  | [], _, _ => ⟨Nat.le_refl _, rfl⟩
  | k :: ks, h1, h2 => by
    obtain ⟨a, b⟩ := shown_len ks (fun j hj => h1 j (List.mem_cons_of_mem _ hj)) fun j hj => h2 j (List.mem_cons_of_mem _ hj)
    have c := StrLaws.reprText_len k (name_codes (h1 k List.mem_cons_self))
    have d := name_len (h1 k List.mem_cons_self)
    have e := int_text_length_le10 (k := 60) (by decide) (h2 k List.mem_cons_self)
    have g : PyData.shownKv (kdsOf (k :: ks) f) = (PyData.shown (.str k) ++ ": " ++ PyData.shown (.int (f k))) :: PyData.shownKv (kdsOf ks f) := by
      show PyData.shownKv ((PyData.str k, PyData.int (f k)) :: kdsOf ks f) = _
      rw [PyData.shownKv]
    rw [g, List.map_cons, List.sum_cons, List.length_cons, List.length_cons, b]
    refine ⟨?_, rfl⟩
    rw [strLen_append, strLen_append]
    have e1 : (PyData.shown (.str k)).length = (reprText k).length := by rw [PyData.shown]
    have e2 : (PyData.shown (.int (f k))).length ≤ 61 := by
      rw [PyData.shown]
      show (Str.ofString (toString (f k))).length ≤ 61
      rw [PySem.ofString_length]
      exact e
    have e3 : (": " : Str).length = 2 := rfl
    omega
theorem dict_len (ps : List Str) : (dictText ps).length ≤ (ps.map (·.length)).sum + 2 * ps.length + 3 := dictText_len_le ps
/-- the text of a dict of integers -/
theorem repr_am {K : PySem.W.Frag} {H : Hp} {Q : VK} {p : Addr} {ks : List Str} {f : Str → Int} (hp : H p = some (.dK (amK ks f))) (k9 : ks.length ≤ 9) (nam : ∀ k ∈ ks, nameB k = true) (hf : ∀ k ∈ ks, (f k).natAbs < 10 ^ 60) (q : Q (.str (PyData.shown (.dict (kdsOf ks f)))) H) : rRepr K [.ref p] H Q := by
  refine ⟨.ref p, .dict (kdsOf ks f), rfl, .dic hp (kds_keys ks) (kds_vals ks), ?_, ?_, ?_, q⟩
  · show PyData.showableKv (kdsOf ks f) = true
    refine kds_showable ks fun k hk => ?_
    have z := hf k hk
    by_cases c : (f k).natAbs = 0
    · rw [c]
      decide
    · refine (Nat.log2_lt c).mpr (Nat.lt_trans z ?_)
      decide +kernel
  · show PyData.depthKv (kdsOf ks f) + 1 ≤ 16
    rw [kds_depth]
    decide
  · obtain ⟨a, b⟩ := shown_len ks nam hf
    have c := dict_len (PyData.shownKv (kdsOf ks f))
    have e : (PyData.dict (kdsOf ks f)).shown = dictText (PyData.shownKv (kdsOf ks f)) := by rw [PyData.shown]
    rw [e, sizeLine_eq]
    omega
theorem kds_congr {ks : List Str} {f g : Str → Int} (h : ∀ k ∈ ks, f k = g k) : kdsOf ks f = kdsOf ks g := by
  unfold kdsOf
  exact List.map_congr_left fun k hk => by rw [h k hk]
theorem Nums.ofAm {H : Hp} {m : Addr} {ks : List Str} {f : Str → Int} (h : H m = some (.dK (amK ks f))) : Has H m ks f := ⟨_, h, fun k hk => amK_some hk⟩
/-- where they are the debts with these numbers -/
def spLIsD (CW CD : Addr) : Sp := fun vs H Q _ => ∃ (a wb d m : Addr) (ks : List Str) (ys zs : TL) (f g : Str → Int), vs = [.ref a, .ref d, .ref m] ∧ IsDebts CW CD H a wb ks ys f ∧ PlainAt H d ks zs ∧ WebOk ks (zs.map (·.2)) ∧ ys.map (·.2) = zs.map (·.2) ∧ Has H m ks g ∧ (∀ k ∈ ks, f k = g k) ∧ (∀ k ∈ ks, (f k).natAbs < 10 ^ 60) ∧ ∀ H', Ex H H' → Q (.bl true) H'
theorem u40 {k : Nat} {A : Around} (r : Room k A) : A.units + 40 < cLine := by
  have := r.un
  omega
section
variable {P : Program} {w : World} {K : PySem.W.Frag} {mg : Str → Option Value} {base : Heap}
theorem scLIsD : FnScope NLi ["_law_told", "_law_plain_here", "_law_debts_here"] (defScope sLIsD) := ⟨rfl, rfl, rfl, by decide +kernel, rfl, by decide +kernel, by decide +kernel⟩
theorem ok_lisd {f g gE gw ga CW CD pw pa : Addr} {fd gd gEd gwd gad : FuncData} (F : Fun K "_law_is_debts" "_law_is_debts" sLIsD f fd) (FM : Fun K "_law_made" "_law_made" sMade g gd) (gM : mg "_law_made" = some (.ref g)) (GM : FnOk P w K mg base CX0 8 g gd ["_law_plain_here"] (spMade CW))
    (gD : mg "Debts" = some (.ref CD)) (kC : PySem.W.kitOne K (.ref CD) (.ref CD) = some true) (DT : InsTy K CD) (DK : DebtsK K CD) (T : BltB mg) (gDi : mg "dict" = none) (gRe : mg "repr" = none)
    (FE : Fun K "__eq__" "Web.__eq__" sWEq gE gEd) (OE : OwnCmp K CW gE) (GE : FnOk P w K mg base CX0 1 gE gEd ["self", "other"] (spWEq CW))
    (FW : Fun K "web" "Debts.web" sDWeb gw gwd) (PW : PropOf K CD "web" pw gw) (GW : FnOk P w K mg base CX0 1 gw gwd ["self"] (spDWeb CW CD)) (FA : Fun K "amounts" "Debts.amounts" sDAm ga gad) (PA' : PropOf K CD "amounts" pa ga) (GA : FnOk P w K mg base CX0 1 ga gad ["self"] (spDAm CW CD)) : GFn P w K mg base (L2.CX P w) 9 f fd ["_law_told", "_law_plain_here", "_law_debts_here"] (spLIsD CW CD) := by
  have nd := scLIsD.nd
  have bM : Binds K gd ["_law_plain_here"] [] := FM.binds fun _ _ _ _ _ _ us hl => match us, hl with | [_], _ => rfl
  have bE : Binds K gEd ["self", "other"] [] := FE.binds fun _ _ _ _ _ _ us hl => match us, hl with | [_, _], _ => rfl
  have bW : Binds K gwd ["self"] [] := FW.binds fun _ _ _ _ _ _ us hl => match us, hl with | [_], _ => rfl
  have bA : Binds K gad ["self"] [] := FA.binds fun _ _ _ _ _ _ us hl => match us, hl with | [_], _ => rfl
  refine gfn_of F scLIsD (fun vs H Q E h => ?_) (fun cdv A outer s H vs Q E hr hg h => ⟨_, (pss_cons (ps_if ((pw_or (pt_not (pt_val (pe_callB call_isi (by rfl) T.isinst (by decide +kernel) (pa_cons (pv 0) (pa_cons (pe_glob (v := .ref CD) (by rfl) gD rfl) pa_nil))) (fun _ => rfl))) (pw_or1 (pt_cmpR (op_neOwn GE OE bE (hr.mono (by decide))) (pe_prop (pv 0) DK.cls PW GW (hr.mono (by decide)) bW .nil pass0 rfl) (pe_call GM (hr.mono (by decide)) (by rfl) gM FM.kp bM .nil pass0 (pa_cons (pv 1) pa_nil)) (nomark _))))).pt (pss_one (ps_ret pe_bl)) pss_nil)
    (pss_one (ps_ret (pe_cmpR op_eq (pe_callB (call_reprD hg (u40 hr)) (by rfl) gRe (by decide +kernel) (pa_cons (pe_prop (pv 0) DK.cls PA' GA (hr.mono (by decide)) bA .nil pass0 rfl) pa_nil)) (pe_callB (call_reprD hg (u40 hr)) (by rfl) gRe (by decide +kernel) (pa_cons (pe_callTy (call_dictP rfl) (by rfl) gDi (by decide +kernel) (pa_cons (pe_lc (own := [("_law_place", 3)]) (g := gName 3) (tt := tYes) rfl nd (pi_list (pe_dget (units1 hr) (pv 1) pe_str (fun _ _ => rfl))) (blkOk_by (own := [("_law_place", 3)]) (N := NLi) (sc := defScope sLIsD) (by decide +kernel)) (fun _ _ _ _ _ => (pg_name (i := 3) nd rfl (Or.inl rfl))) (fun _ _ _ _ _ => pts_nil) (fun _ _ _ _ _ => (pe_tup (pa_cons (pv 3) (pa_cons (pe_dget (units1 hr) (pv 2) (pv 3) (fun _ _ => rfl)) pa_nil))))) pa_nil)) pa_nil)) (nomark _))))), ?_⟩)
  · obtain ⟨a, wb, d, m, ks, ys, zs, f, g, rfl, _⟩ := h
    rfl
  · obtain ⟨a, wb, d, m, ks, ys, zs, fn, gn, rfl, db, pl, ok, tt, hm, fg, fb, k⟩ := h
    obtain ⟨dx, n, h1, h2⟩ := db.at_
    have tD : TyOf K H (.ref a) (.ref CD) := DT.ty h1
    walk_at "rd"
    refine ⟨.ref a, .ref CD, .ref CD, .ref CD, true, rfl, .own CD, .base tD, kC, true, rfl, ?_⟩
    refine Rd.iteF (by decide) ?_
    walk_at "rd"
    unfold tProp
    walk_at "rd"
    refine ⟨a, dx, _, rfl, h1, a, wb, ks, ys, fn, rfl, db, ?_⟩
    walk_at "rd"
    refine ⟨d, ks, zs, rfl, pl, ok, fun w2 H1 e1 hw2 nw2 => ?_⟩
    walk_at "rd"
    have db1 := db.ex e1
    obtain ⟨dy, p, q, nw, nl, w1, wa, w3, w4, w5⟩ := db1.web.at_
    obtain ⟨dy', p', q', nw', nl', w1', wa', w3', w4', w5'⟩ := hw2.at_
    refine ⟨wb, w2, dy, dy', _, _, rfl, rfl, w1, w1', wb, w2, ks, ks, ys, zs, rfl, db1.web, hw2, _, rfl, ?_⟩
    rw [decide_eq_true rfl, decide_eq_true tt]
    refine ⟨_, rfl, ?_⟩
    refine Rd.iteF (by decide) ?_
    walk_at "rd"
    have k9 := ok.nine
    refine ⟨a, dx, _, rfl, e1 _ _ h1, a, wb, ks, ys, fn, rfl, db1, fun p1 H2 e2 hp1 np1 => ?_⟩
    walk_at "rd"
    refine repr_am hp1 k9 ok.names fb ?_
    walk_at "rd"
    refine Rd.lcm' (Rd.ilist' ?_)
    unfold tDGet
    walk_at "rd"
    have e12 := e1.trans e2
    obtain ⟨kp, gk, hkp⟩ := pl.places
    refine ⟨d, _, rfl, gk H2 e12, kp, rfl, ⟨_, SqL.of (e12 _ _ hkp)⟩, fun D hD => ?_⟩
    refine lc_pairs (f := gn) (e12 _ _ hkp) hD (by omega) (fun _ => rfl) (fun _ => rfl) (fun b hb Ha ea R hR => ?_) (fun H' ps e3 hps hpr => ?_)
    · walk_at "rd"
      exact ⟨m, _, rfl, hm.get (e12.trans ea) hb, hR Ha (Ex.refl Ha)⟩
    · refine ⟨D, ps, amK ks gn, rfl, SqL.of hps, pairsT hpr, fun L hL => ?_⟩
      rw [merge_amK (asc_nodup ok.asc)]
      walk_at "rd"
      refine repr_am (f := gn) upd_same k9 ok.names (fun j hj => by rw [← fg j hj]; exact fb j hj) ?_
      refine ⟨rfl, ?_⟩
      rw [kds_congr fg, decide_eq_true rfl]
      exact k _ ((e12.trans e3).trans (Ex.new hL))
end
end OwW


namespace OwW
open PySem PyProof.Rows L2 L2H OwX Rd Evl
abbrev sLNum : Stmt := top 55
abbrev sLPlan : Stmt := top 64
abbrev NLp : List Str := ["_law_dice_here", "_law_plain_here", "_law_place"]
def spLNum : Sp := fun vs H Q _ => ∃ a : Addr, vs = [.ref a] ∧ HasDice H a ∧ ∀ (r : Int) H', r.natAbs ≤ 60 → DX a H H' → Q (.int r) H'
theorem amK_congr {ks : List Str} {f g : Str → Int} (h : ∀ k ∈ ks, f k = g k) : amK ks f = amK ks g := by
  unfold amK
  exact List.map_congr_left fun k hk => by rw [h k hk]
/-- [(k, e) for k in texts], e an integer of at most B that is drawn -/
theorem lc_pairsD {K : PySem.W.Frag} {te0 : TE} {s : Nat} {vs : List Nat} {σ : L2.St} {H1 : Hp} {a D kp : Addr} {Qd : Hp → Prop} {ks : List Str} {B : Nat} (hdi : HasDice H1 a) (hkp : wo a H1 kp = some (.lst (ks.map V.str))) (hD : H1 D = none) (hl : ks.length ≤ 60) (nk : ks.Nodup)
    (hset : ∀ v, wipe ((wipe σ vs).set s (some v)) vs = wipe σ vs) (hget : ∀ v, ((wipe σ vs).set s (some v))[s]? = some (some v))
    (hs : ∀ b ∈ ks, ∀ Ha, DX a H1 Ha → ∀ R : VK, (∀ (n : Int) Hb, n.natAbs ≤ B → DX a Ha Hb → R (.int n) Hb) → te0 ((wipe σ vs).set s (some (.str b))) Ha R)
    (hd : ∀ H' ps f, DX a H1 H' → (∀ k ∈ ks, (f k).natAbs ≤ B) → wo a H' D = some (.lst (ps.map V.ref)) → Paired (fun p kv => wo a H' p = some (.tup [kV kv.1, kv.2])) ps (amK ks f) → Qd H') :
    ∃ W : Nat → Nat → Hp → Prop, (∃ m, W 0 m (upd H1 D (.lst []))) ∧ ∀ i m H, W i m H → ((Itl K kp).stop i H ∧ Qd H) ∨ ((Itl K kp).go i H ∧ ∃ Nx : Hp → Prop, (∀ H', Nx H' → ∃ m', m' < m ∧ W (i + 1) m' H') ∧
      ∀ x H', (Itl K kp).yld i H x H' → gName s x (wipe σ vs) H' fun σ2 H2 => wipe σ2 vs = wipe σ vs ∧ tYes σ2 H2 fun b H3 => if b = true then tTup (tCons (tVar s) (tCons te0 tNil)) σ2 H3 fun y H4 => ∃ acc, H4 D = some (.lst acc) ∧ acc.length < sizeLine ∧ Nx (upd H4 D (.lst (acc ++ [y]))) else Nx H3) := by
  have Da : D ≠ a := fresh_ne hdi hD
  refine lc_it (walk_list (xs := ks.map V.str)) (fun i H' => DX a H1 H' ∧ ∃ (ps : List Addr) (f : Str → Int), (∀ k ∈ ks.take i, (f k).natAbs ≤ B) ∧ wo a H' D = some (.lst (ps.map V.ref)) ∧ Paired (fun p kv => wo a H' p = some (.tup [kV kv.1, kv.2])) ps (amK (ks.take i) f))
    ⟨DX.of (Ex.new hD) hdi, [], fun _ => 0, (fun _ h => nomatch h), wo_of upd_same Da, .nil⟩ (fun i H' _ hP => SqL.of (wo_in a _ _ _ (hP.1.ex _ _ hkp))) (fun i z Ha Hb hi hP hY0 => ?_) (fun H' hP => ?_)
  · obtain ⟨x1, ps, f, fb, hps, hpr⟩ := hP
    obtain ⟨rfl, hz⟩ := hY0
    rw [List.getElem?_map] at hz
    obtain ⟨b, hb, rfl⟩ := Option.map_eq_some_iff.mp hz
    have bk := List.mem_of_getElem? hb
    show _ ∧ _
    refine ⟨hset _, yes_i ?_⟩
    refine ⟨_, hget _, ?_⟩
    refine hs b bk Hb x1 _ fun n Hc nb x2 => ?_
    refine ⟨small64 (n := 2) (by decide), fun p hp => ?_⟩
    have D1 := x2.ex _ _ hps
    have D1' := wo_in a _ _ _ D1
    have Dp : D ≠ p := fun e => by
      rw [← e, D1'] at hp
      exact nomatch hp
    have pa : p ≠ a := fresh_ne x2.at_ hp
    have pl := pairsN hpr
    have x3 : DX a H1 (upd Hc p (.tup [V.str b, V.int n])) := (x1.trans x2).then (Ex.new hp)
    have nbk : ¬ b ∈ ks.take i := fun hm => by
      rw [← List.take_append_drop i ks] at nk
      have hd : b ∈ ks.drop i := List.mem_of_getElem? (i := 0) (by rw [List.getElem?_drop]; exact hb)
      exact (List.nodup_append.mp nk).2.2 b hm b hd rfl
    have e3 : amK (ks.take (i + 1)) (updF f b n) = amK (ks.take i) f ++ [((Sum.inr b : Key), V.int n)] := by
      rw [List.take_add_one, hb]
      have e4 : amK (ks.take i) (updF f b n) = amK (ks.take i) f := amK_congr fun k hk => by
        unfold updF
        rw [if_neg]
        intro e
        rw [e] at hk
        exact nbk hk
      rw [← e4]
      unfold amK
      rw [List.map_append]
      show _ ++ [((Sum.inr b : Key), V.int (updF f b n b))] = _
      rw [show updF f b n b = n from if_pos rfl]
    refine ⟨ps.map V.ref, (upd_ne Dp).trans D1', sz_lt (by rw [List.length_map, pl]; unfold amK; rw [List.length_map, List.length_take]; omega), x3.mut hD Da, ps ++ [p], updF f b n, fun k hk => ?_, ?_, ?_⟩
    · rw [List.take_add_one, hb] at hk
      unfold updF
      by_cases c : k = b
      · rw [if_pos c]
        exact nb
      · rw [if_neg c]
        rcases List.mem_append.mp hk with y | y
        · exact fb k y
        · exact absurd (List.mem_singleton.mp y) c
    · refine wo_of ?_ Da
      rw [upd_same, List.map_append]
      rfl
    · rw [e3]
      refine Paired.snoc (pairsE hpr fun q t hq => ?_) ?_
      · have q1 := wo_in a _ _ _ (x2.ex _ _ hq)
        have qa : q ≠ a := fun e => by
          rw [e] at hq
          unfold wo at hq
          rw [if_pos rfl] at hq
          exact nomatch hq
        have qp : q ≠ p := fun e => by
          rw [e, hp] at q1
          exact nomatch q1
        have qD : q ≠ D := fun e => by
          rw [e, D1'] at q1
          exact nomatch q1
        exact wo_of ((upd_ne qD).trans ((upd_ne qp).trans q1)) qa
      · refine wo_of ?_ pa
        show (upd (upd Hc p (.tup [V.str b, V.int n])) D (.lst (ps.map V.ref ++ [V.ref p]))) p = some (.tup [V.str b, V.int n])
        rw [upd_ne (Ne.symm Dp), upd_same]
  · obtain ⟨x1, ps, f, fb, hps, hpr⟩ := hP
    rw [List.length_map, List.take_length] at hpr fb
    exact hd H' ps f x1 fb hps hpr
/-- a drawn plan -/
def spLPlan : Sp := fun vs H Q _ => ∃ (a d : Addr) (ks : List Str) (zs : TL), vs = [.ref a, .ref d] ∧ HasDice H a ∧ PlainAt (wo a H) d ks zs ∧ WebOk ks (zs.map (·.2)) ∧ ∀ p f H', DX a H H' → (∀ k ∈ ks, (f k).natAbs ≤ 60) → wo a H' p = some (.dK (amK ks f)) → H p = none → Q (.ref p) H'
section
variable {P : Program} {w : World} {K : PySem.W.Frag} {mg : Str → Option Value} {base : Heap}
theorem scLNum : FnScope ["_law_dice_here"] ["_law_dice_here"] (defScope sLNum) := ⟨rfl, rfl, rfl, by decide +kernel, rfl, by decide +kernel, by decide +kernel⟩
theorem ok_lnum {f g : Addr} {fd gd : FuncData} (F : Fun K "_law_number" "_law_number" sLNum f fd) (FR : Fun K "_law_roll" "_law_roll" sRoll g gd) (gR : mg "_law_roll" = some (.ref g)) (GR : FnOk P w K mg base CX0 1 g gd ["_law_dice_here", "_law_total"] spRoll) : FnOk P w K mg base CX0 2 f fd ["_law_dice_here"] spLNum := by
  have nd := scLNum.nd
  have bR := rollBinds FR
  refine F.ok scLNum (fun vs H Q E h => ?_) (fun cdv A outer s H vs Q E hr h => ⟨_, (pss_cons (ps_if (pt_cmpR op_eq (pe_call GR (hr.mono (by decide)) (by rfl) gR FR.kp bR .nil pass0 (pa_cons (pv 0) (pa_cons pe_int pa_nil))) pe_int (nomark _)) (pss_one (ps_ret (pe_op op_sub (pe_call GR (hr.mono (by decide)) (by rfl) gR FR.kp bR .nil pass0 (pa_cons (pv 0) (pa_cons pe_int pa_nil))) pe_int))) pss_nil)
    (pss_one (ps_ret (pe_op op_sub (pe_call GR (hr.mono (by decide)) (by rfl) gR FR.kp bR .nil pass0 (pa_cons (pv 0) (pa_cons pe_int pa_nil))) pe_int)))), ?_⟩)
  · obtain ⟨a, rfl, _⟩ := h
    rfl
  · obtain ⟨a, rfl, hd, k⟩ := h
    walk_at "rd"
    refine roll_dx hd (by decide) (by decide) fun r H1 r0 r1 x1 => ?_
    walk_at "rd"
    refine ⟨rfl, _, rfl, ?_⟩
    by_cases c : V.int r = V.int 0
    · rw [decide_eq_true c]
      refine Rd.iteT rfl ?_
      walk_at "rd"
      refine roll_dx x1.at_ (by decide) (by decide) fun q H2 q0 q1 x2 => ?_
      walk_at "rd"
      exact k _ H2 (by omega) (x1.trans x2)
    · rw [decide_eq_false c]
      refine Rd.iteF (by decide) ?_
      walk_at "rd"
      refine roll_dx x1.at_ (by decide) (by decide) fun q H2 q0 q1 x2 => ?_
      walk_at "rd"
      exact k _ H2 (by omega) (x1.trans x2)
theorem scLPlan : FnScope NLp ["_law_dice_here", "_law_plain_here"] (defScope sLPlan) := ⟨rfl, rfl, rfl, by decide +kernel, rfl, by decide +kernel, by decide +kernel⟩
theorem ok_lplan {f g : Addr} {fd gd : FuncData} (F : Fun K "_law_plan_drawn" "_law_plan_drawn" sLPlan f fd) (FN : Fun K "_law_number" "_law_number" sLNum g gd) (gN : mg "_law_number" = some (.ref g)) (GN : FnOk P w K mg base CX0 2 g gd ["_law_dice_here"] spLNum) (gDi : mg "dict" = none) : FnOk P w K mg base CX0 3 f fd ["_law_dice_here", "_law_plain_here"] spLPlan := by
  have nd := scLPlan.nd
  have bN : Binds K gd ["_law_dice_here"] [] := FN.binds fun _ _ _ _ _ _ us hl => match us, hl with | [_], _ => rfl
  refine F.ok scLPlan (fun vs H Q E h => ?_) (fun cdv A outer s H vs Q E hr h => ⟨_, (pss_one (ps_ret (pe_callTy (call_dictP rfl) (by rfl) gDi (by decide +kernel) (pa_cons (pe_lc (own := [("_law_place", 2)]) (g := gName 2) (tt := tYes) (te := tTup (tCons (tVar 2) (tCons (tCall spLNum [] E0 (tCons (tVar 0) tNil)) tNil))) rfl nd (pi_list (pe_dget (units1 hr) (pv 1) pe_str (fun _ _ => rfl))) (blkOk_by (own := [("_law_place", 2)]) (N := NLp) (sc := defScope sLPlan) (by decide +kernel)) (fun _ _ _ _ _ => (pg_name (i := 2) nd rfl (Or.inl rfl))) (fun _ _ _ _ _ => pts_nil) (fun _ _ _ _ _ => (pe_tup (pa_cons (pv 2) (pa_cons (pe_call GN (hr.mono (by decide)) (by rfl) gN FN.kp bN .nil pass0 (pa_cons (pv 0) pa_nil)) pa_nil))))) pa_nil)))), ?_⟩)
  · obtain ⟨a, d, ks, zs, rfl, _⟩ := h
    rfl
  · obtain ⟨a, d, ks, zs, rfl, hdi, pl, ok, k⟩ := h
    walk_at "rd"
    refine Rd.lcm' (Rd.ilist' ?_)
    unfold tDGet
    walk_at "rd"
    obtain ⟨kp, gk, hkp⟩ := pl.places
    refine ⟨d, _, rfl, gk H (wo_in a H), kp, rfl, ⟨_, SqL.of (wo_in a _ _ _ hkp)⟩, fun D hD => ?_⟩
    refine lc_pairsD (B := 60) hdi hkp hD (by have := ok.nine; omega) (asc_nodup ok.asc) (fun _ => rfl) (fun _ => rfl) (fun b hb Ha xa R hR => ?_) (fun H' ps f x1 fb hps hpr => ?_)
    · walk_at "rd"
      exact ⟨a, rfl, xa.at_, fun r Hb rb xb => hR r Hb rb xb⟩
    · refine ⟨D, ps, amK ks f, rfl, SqL.of (wo_in a _ _ _ hps), pairsT (pairsE hpr fun q t hq => wo_in a _ _ _ hq), fun p hp => ?_⟩
      rw [merge_amK (asc_nodup ok.asc)]
      exact k p f _ (x1.then (Ex.new hp)) fb (wo_of upd_same (fresh_ne x1.at_ hp)) (dx_none x1 hp)
end
end OwW


namespace OwW
open PySem PyProof.Rows L2 L2H OwX Rd Evl
abbrev sLDebts : Stmt := top 56
abbrev NDb : List Str := ["_law_dice_here", "_law_plain_here", "_law_total", "_law_place", "_law_found", "_law_one"]
theorem sum_abs {f : Str → Int} {B : Nat} : ∀ ks : List Str, (∀ k ∈ ks, (f k).natAbs ≤ B) → ((ks.map f).sum).natAbs ≤ ks.length * B
  | [], _ => by simp
  | k :: ks, h => by
    have a := h k List.mem_cons_self
    have b := sum_abs ks fun j hj => h j (List.mem_cons_of_mem _ hj)
    rw [List.map_cons, List.sum_cons, List.length_cons, Nat.add_mul]
    omega
/-- drawn debts -/
def spLDebts : Sp := fun vs H Q _ => ∃ (a d : Addr) (t : Int) (ks : List Str) (zs : TL), vs = [.ref a, .ref d, .int t] ∧ HasDice H a ∧ PlainAt (wo a H) d ks zs ∧ WebOk ks (zs.map (·.2)) ∧ t.natAbs ≤ 60 ∧ ∀ p f H', DX a H H' → (∀ k ∈ ks, (f k).natAbs ≤ 1000) → wo a H' p = some (.dK (amK ks f)) → H p = none → Q (.ref p) H'
section
variable {P : Program} {w : World} {K : PySem.W.Frag} {mg : Str → Option Value} {base : Heap}
theorem scLDebts : FnScope NDb ["_law_dice_here", "_law_plain_here", "_law_total"] (defScope sLDebts) := ⟨rfl, rfl, rfl, by decide +kernel, rfl, by decide +kernel, by decide +kernel⟩
theorem ok_ldebts {f g gp : Addr} {fd gd gpd : FuncData} (F : Fun K "_law_debts" "_law_debts" sLDebts f fd) (FN : Fun K "_law_number" "_law_number" sLNum g gd) (gN : mg "_law_number" = some (.ref g)) (GN : FnOk P w K mg base CX0 2 g gd ["_law_dice_here"] spLNum)
    (FP : Fun K "_law_pick" "_law_pick" sPick gp gpd) (gP : mg "_law_pick" = some (.ref gp)) (GP : FnOk P w K mg base CX0 2 gp gpd ["_law_dice_here", "_law_items"] (spPick K)) (gDi : mg "dict" = none) (gS : mg "sum" = none) : FnOk P w K mg base CX0 3 f fd ["_law_dice_here", "_law_plain_here", "_law_total"] spLDebts := by
  have nd := scLDebts.nd
  have bN : Binds K gd ["_law_dice_here"] [] := FN.binds fun _ _ _ _ _ _ us hl => match us, hl with | [_], _ => rfl
  have bP : Binds K gpd ["_law_dice_here", "_law_items"] [] := FP.binds fun _ _ _ _ _ _ us hl => match us, hl with | [_, _], _ => rfl
  refine F.ok scLDebts (fun vs H Q E h => ?_) (fun cdv A outer s H vs Q E hr h => ⟨_, (pss_cons (ps_set (i := 4) nd rfl (Or.inr rfl) (pe_callTy (call_dictP rfl) (by rfl) gDi (by decide +kernel) (pa_cons (pe_lc (own := [("_law_place", 3)]) (g := gName 3) (tt := tYes) (te := tTup (tCons (tVar 3) (tCons (tCall spLNum [] E0 (tCons (tVar 0) tNil)) tNil))) rfl nd (pi_list (pe_dget (units1 hr) (pv 1) pe_str (fun _ _ => rfl))) (blkOk_by (own := [("_law_place", 3)]) (N := NDb) (sc := defScope sLDebts) (by decide +kernel)) (fun _ _ _ _ _ => (pg_name (i := 3) nd rfl (Or.inl rfl))) (fun _ _ _ _ _ => pts_nil) (fun _ _ _ _ _ => (pe_tup (pa_cons (pv 3) (pa_cons (pe_call GN (hr.mono (by decide)) (by rfl) gN FN.kp bN .nil pass0 (pa_cons (pv 0) pa_nil)) pa_nil))))) pa_nil)))
    (pss_cons (ps_set (i := 3) nd rfl (Or.inl rfl) (pe_call GP (hr.mono (by decide)) (by rfl) gP FP.kp bP .nil pass0 (pa_cons (pv 0) (pa_cons (pe_dget (units1 hr) (pv 1) pe_str (fun _ _ => rfl)) pa_nil))))
    (pss_cons (ps_asg (pe_op op_sub (pe_op op_add (pe_dget (units1 hr) (pv 4) (pv 3) (fun _ _ => rfl)) (pv 2)) (pe_callB (cr_sum rfl) (by rfl) gS (by decide +kernel) (pa_cons (pe_lc (own := [("_law_one", 5)]) (g := gName 5) (tt := tYes) rfl nd (pi_list (pe_dget (units1 hr) (pv 1) pe_str (fun _ _ => rfl))) (blkOk_by (own := [("_law_one", 5)]) (N := NDb) (sc := defScope sLDebts) (by decide +kernel)) (fun _ _ _ _ _ => (pg_name (i := 5) nd rfl (Or.inl rfl))) (fun _ _ _ _ _ => pts_nil) (fun _ _ _ _ _ => (pe_dget (units1 hr) (pv 4) (pv 5) (fun _ _ => rfl)))) pa_nil))) (pg_sub (pv 4) (pv 3) (L2.set_dict (units1 hr))))
    (pss_one (ps_ret (pv 4)))))), ?_⟩)
  · obtain ⟨a, d, t, ks, zs, rfl, _⟩ := h
    rfl
  · obtain ⟨a, d, t, ks, zs, rfl, hdi, pl, ok, tb, k⟩ := h
    have k9 := ok.nine
    have k2 := ok.two
    walk_at "rd"
    refine Rd.lcm' (Rd.ilist' ?_)
    unfold tDGet
    walk_at "rd"
    obtain ⟨kp, gk, hkp⟩ := pl.places
    refine ⟨d, _, rfl, gk H (wo_in a H), kp, rfl, ⟨_, SqL.of (wo_in a _ _ _ hkp)⟩, fun D hD => ?_⟩
    refine lc_pairsD (B := 60) hdi hkp hD (by omega) (asc_nodup ok.asc) (fun _ => rfl) (fun _ => rfl) (fun b hb Ha xa R hR => ?_) (fun H' ps f x1 fb hps hpr => ?_)
    · walk_at "rd"
      exact ⟨a, rfl, xa.at_, fun r Hb rb xb => hR r Hb rb xb⟩
    · refine ⟨D, ps, amK ks f, rfl, SqL.of (wo_in a _ _ _ hps), pairsT (pairsE hpr fun q t hq => wo_in a _ _ _ hq), fun L hL => ?_⟩
      rw [merge_amK (asc_nodup ok.asc)]
      have x2 := x1.then (Ex.new (o := .dK (amK ks f)) hL)
      have l2 : wo a (upd H' L (.dK (amK ks f))) L = some (.dK (amK ks f)) := wo_of upd_same (fresh_ne x1.at_ hL)
      have LH := dx_none x1 hL
      generalize upd H' L (.dK (amK ks f)) = H2 at x2 l2 ⊢
      walk_at "rd"
      refine ⟨d, _, rfl, gk H2 (x2.ex.trans (wo_in a H2)), ?_⟩
      walk_at "rd"
      refine pick_dx x2.at_ (x2.ex _ _ hkp) (by rw [List.length_map]; omega) (by rw [List.length_map]; omega) fun x H3 hx x3 => ?_
      obtain ⟨b, bk, rfl⟩ := List.mem_map.mp hx
      walk_at "rd"
      have l3 := wo_in a _ _ _ (x3.ex _ _ l2)
      have g1 := DGet.k (k := Sum.inr b) l3
      rw [amK_some bk] at g1
      refine ⟨L, _, rfl, g1, ?_⟩
      walk_at "rd"
      refine Rd.lcm' (Rd.ilist' ?_)
      walk_at "rd"
      have x23 := x2.trans x3
      have hk3 := wo_in a _ _ _ (x23.ex _ _ hkp)
      refine ⟨d, _, rfl, gk H3 (x23.ex.trans (wo_in a H3)), kp, rfl, ⟨_, SqL.of hk3⟩, fun D2 hD2 => ?_⟩
      refine Rd.lc_mapG (te := tDGet (tVar 4) (tVar 5)) (g := gName 5) (walk_list (xs := ks.map V.str)) (fun j => V.int ((ks.map f).getD j 0)) hD2 (by rw [List.length_map]; omega) (fun H' e => SqL.of (e _ _ hk3)) (fun j y Ha Hb R hj ea y1 hR => ?_) (fun H6 e6 h6 => ?_)
      · obtain ⟨rfl, y2⟩ := y1
        rw [List.getElem?_map] at y2
        obtain ⟨o, ho, rfl⟩ := Option.map_eq_some_iff.mp y2
        have eo : (ks.map f).getD j 0 = f o := by rw [List.getD_eq_getElem?_getD, List.getElem?_map, ho]; rfl
        rw [eo] at hR
        show _ ∧ _
        refine ⟨rfl, ?_⟩
        unfold tDGet
        walk_at "rd"
        have g2 := DGet.k (k := Sum.inr o) (ea _ _ l3)
        rw [amK_some (List.mem_of_getElem? ho)] at g2
        exact ⟨L, _, rfl, g2, hR _ (Ex.refl _)⟩
      · walk_at "rd"
        have h6' : H6 D2 = some (.lst ((ks.map f).map V.int)) := by
          rw [h6, List.length_map]
          have z := range_get V.int 0 (ks.map f)
          rw [List.length_map] at z
          rw [z]
        refine ⟨D2, ks.map f, rfl, SqL.of h6', ?_⟩
        walk_at "rd"
        have l6 := e6 _ _ l3
        refine ⟨L, _, rfl, DPut.k (k := Sum.inr b) l6 (sz_lt (by unfold amK; rw [List.length_map]; omega)), ?_⟩
        rw [amK_put bk]
        walk_at "rd"
        have La := fresh_ne hdi LH
        have sb := sum_abs (f := f) (B := 60) ks fb
        have x6 : DX a H (upd H6 L (.dK (amK ks (updF f b (f b + t - (ks.map f).sum))))) := (x23.then e6).mut LH La
        refine k L _ _ x6 (fun o ho => ?_) (wo_of upd_same La) LH
        unfold updF
        have f1 := fb b bk
        have f2 := fb o ho
        have sb2 : ((ks.map f).sum).natAbs ≤ 540 := Nat.le_trans sb (by omega)
        by_cases c : o = b
        · rw [if_pos c]
          omega
        · rw [if_neg c]
          omega
end
end OwW


namespace OwW
open PySem PyProof.Rows L2 L2H OwX Rd Evl
abbrev sLPlOf : Stmt := top 65
abbrev NPo : List Str := ["_law_plan", "_law_least", "_law_place"]
theorem sorted_uniq {l m : List Str} (p : l.Perm m) (a : l.Pairwise (fun a b => OwL2.lt a b = true)) (b : m.Pairwise (fun a b => OwL2.lt a b = true)) : l = m := by
  induction l generalizing m with
  | nil => exact (List.Perm.nil_eq p)
  | cons x l ih =>
    cases m with
    | nil => exact absurd p.length_eq (by simp)
    | cons y m =>
      have a' := List.pairwise_cons.mp a
      have b' := List.pairwise_cons.mp b
      have xy : x = y := by
        have hx : x ∈ y :: m := p.mem_iff.mp List.mem_cons_self
        have hy : y ∈ x :: l := p.mem_iff.mpr List.mem_cons_self
        rcases List.mem_cons.mp hx with e | e
        · exact e
        · rcases List.mem_cons.mp hy with g | g
          · exact g.symm
          · have z := lt_tr (b'.1 x e) (a'.1 y g)
            rw [lt_irr] at z
            exact nomatch z
      subst xy
      rw [ih ((List.perm_cons x).mp p) a'.2 b'.2]
def spLPlOf : Sp := fun vs H Q _ => ∃ (m : Addr) (ks : List Str) (f : Str → Int), vs = [.ref m] ∧ H m = some (.dK (amK ks f)) ∧ ks.Pairwise (fun a b => OwL2.lt a b = true) ∧ 2 ≤ ks.length ∧ ks.length ≤ 9 ∧
  ∀ p H' (mn : Int), mn ∈ ks.map f → (∀ y ∈ ks.map f, mn ≤ y) → Ex H H' → H' p = some (.dK (amK ks fun k => f k - mn)) → H p = none → Q (.ref p) H'
section
variable {P : Program} {w : World} {K : PySem.W.Frag} {mg : Str → Option Value} {base : Heap}
theorem scLPlOf : FnScope NPo ["_law_plan"] (defScope sLPlOf) := ⟨rfl, rfl, rfl, by decide +kernel, rfl, by decide +kernel, by decide +kernel⟩
theorem ok_lplof {f : Addr} {fd : FuncData} (F : Fun K "_law_plain_of" "_law_plain_of" sLPlOf f fd) (gDi : mg "dict" = none) (gMn : mg "min" = none) (gSo : mg "sorted" = none) : FnOk P w K mg base CX0 1 f fd ["_law_plan"] spLPlOf := by
  have nd := scLPlOf.nd
  refine F.ok scLPlOf (fun vs H Q E h => ?_) (fun cdv A outer s H vs Q E hr h => ⟨_, (pss_cons (ps_set (i := 1) nd rfl (Or.inr rfl) (pe_callB (cr_min rfl) (by rfl) gMn (by decide +kernel) (pa_cons (pe_lock (pe_lc (own := [("_law_place", 2)]) (g := gName 2) (tt := tYes) rfl nd (pi_keys (pv 0)) (blkOk_by (own := [("_law_place", 2)]) (N := NPo) (sc := defScope sLPlOf) (by decide +kernel)) (fun _ _ _ _ _ => (pg_name (i := 2) nd rfl (Or.inl rfl))) (fun _ _ _ _ _ => pts_nil) (fun _ _ _ _ _ => (pe_dget (units1 hr) (pv 0) (pv 2) (fun _ _ => rfl))))) pa_nil)))
    (pss_one (ps_ret (pe_callTy (call_dictP rfl) (by rfl) gDi (by decide +kernel) (pa_cons (pe_lc (own := [("_law_place", 2)]) (g := gName 2) (tt := tYes) rfl nd (pi_list (pe_callB (call_sortedD rfl) (by rfl) gSo (by decide +kernel) (pa_cons (pv 0) pa_nil))) (blkOk_by (own := [("_law_place", 2)]) (N := NPo) (sc := defScope sLPlOf) (by decide +kernel)) (fun _ _ _ _ _ => (pg_name (i := 2) nd rfl (Or.inl rfl))) (fun _ _ _ _ _ => pts_nil) (fun _ _ _ _ _ => (pe_tup (pa_cons (pv 2) (pa_cons (pe_op op_sub (pe_dget (units1 hr) (pv 0) (pv 2) (fun _ _ => rfl)) (pv 1)) pa_nil))))) pa_nil))))), ?_⟩)
  · obtain ⟨m, ks, f, rfl, _⟩ := h
    rfl
  · obtain ⟨m, ks, f, rfl, hm, asc, k2, k9, k⟩ := h
    walk_at "rd"
    refine ⟨m, .dK (amK ks f), hm, trivial, fun od => ?_⟩
    have La : (upd H m (.frz od (.dK (amK ks f)))) m = some (.frz od (.dK (amK ks f))) := upd_same
    have eL : Ex (wo m H) (upd H m (.frz od (.dK (amK ks f)))) := fun q o hq => by
      have na : q ≠ m := fun e => by
        rw [e] at hq
        unfold wo at hq
        rw [if_pos rfl] at hq
        exact nomatch hq
      exact (upd_ne na).trans (wo_in m _ _ _ hq)
    generalize upd H m (.frz od (.dK (amK ks f))) = L at La eL ⊢
    refine Rd.lcm' ?_
    unfold iKeys
    walk_at "rd"
    refine ⟨m, od, rfl, Or.inl ⟨_, La, fun D hD => ?_⟩⟩
    have al : (amK ks f).length = ks.length := by unfold amK; rw [List.length_map]
    refine Rd.lc_mapG (te := tDGet (tVar 0) (tVar 2)) (g := gName 2) (walk_keys (d := m) (o := od) (kvs := amK ks f)) (fun j => V.int ((ks.map f).getD j 0)) hD (by omega) (fun H' e => e _ _ La) (fun j y Ha Hb R hj ea y1 hR => ?_) (fun H6 e6 h6 => ?_)
    · obtain ⟨rfl, kk, v, hz, rfl⟩ := y1
      unfold amK at hz
      rw [List.getElem?_map] at hz
      obtain ⟨o, ho, e⟩ := Option.map_eq_some_iff.mp hz
      rw [← (Prod.mk.inj e).1]
      have eo : (ks.map f).getD j 0 = f o := by rw [List.getD_eq_getElem?_getD, List.getElem?_map, ho]; rfl
      rw [eo] at hR
      show _ ∧ _
      refine ⟨rfl, ?_⟩
      unfold tDGet
      walk_at "rd"
      have g1 := dgetF (k := Sum.inr o) (ea _ _ La)
      rw [amK_some (List.mem_of_getElem? ho)] at g1
      exact ⟨m, _, rfl, g1, hR _ (Ex.refl _)⟩
    · refine ⟨e6 _ _ La, ?_⟩
      walk_at "rd"
      have Da : D ≠ m := fun e => by
        rw [e, La] at hD
        exact nomatch hD
      have EE : Ex H (upd H6 m (.dK (amK ks f))) := fun q o hq => by
        by_cases e : q = m
        · rw [e] at hq ⊢
          rw [hm] at hq
          cases hq
          exact upd_same
        · exact (upd_ne e).trans (e6 _ _ (eL _ _ (wo_of hq e)))
      have h6' : (upd H6 m (.dK (amK ks f))) D = some (.lst ((ks.map f).map V.int)) := by
        rw [upd_ne Da, h6, al]
        have z := range_get V.int 0 (ks.map f)
        rw [List.length_map] at z
        rw [z]
      have m6 : (upd H6 m (.dK (amK ks f))) m = some (.dK (amK ks f)) := upd_same
      generalize upd H6 m (.dK (amK ks f)) = H7 at EE h6' m6 ⊢
      refine ⟨D, ks.map f, rfl, SqL.of h6', by rw [List.length_map]; omega, fun mn hmn hle => ?_⟩
      walk_at "rd"
      refine Rd.lcm' (Rd.ilist' ?_)
      walk_at "rd"
      refine ⟨m, _, ks, rfl, .inl m6, by unfold amK; rw [List.map_map]; rfl, by omega, fun ys q pm so hq => ?_⟩
      have yw : ys.Pairwise (fun a b => OwL2.lt a b = true) := ascB_pw (r := OwL2.lt) (fun h g => lt_tr h g) (asc_sorted so (pm.symm.nodup (asc_nodup asc)))
      have e0 : ys = ks := sorted_uniq pm yw asc
      subst e0
      have e8 : Ex H7 (upd H7 q (.lst (ys.map V.str))) := Ex.new hq
      have q8 : (upd H7 q (.lst (ys.map V.str))) q = some (.lst (ys.map V.str)) := upd_same
      generalize upd H7 q (.lst (ys.map V.str)) = H8 at e8 q8 ⊢
      refine ⟨q, rfl, ⟨_, SqL.of q8⟩, fun D2 hD2 => ?_⟩
      refine lc_pairs (f := fun k => f k - mn) q8 hD2 (by omega) (fun _ => rfl) (fun _ => rfl) (fun b hb Ha ea R hR => ?_) (fun H' ps e9 hps hpr => ?_)
      · unfold tOp tDGet
        walk_at "rd"
        have g1 := DGet.k (k := Sum.inr b) (ea _ _ (e8 _ _ m6))
        rw [amK_some hb] at g1
        refine ⟨m, _, rfl, g1, ?_⟩
        walk_at "rd"
        exact hR Ha (Ex.refl Ha)
      · refine ⟨D2, ps, amK ys (fun k => f k - mn), rfl, SqL.of hps, pairsT hpr, fun p hp => ?_⟩
        rw [merge_amK (asc_nodup asc)]
        have EF := EE.trans (e8.trans e9)
        exact k p _ mn hmn hle (EF.trans (Ex.new hp)) upd_same (none_ex EF hp)
end
end OwW


namespace OwW
open PySem PyProof.Rows L2 L2H OwX Rd Evl
/-- a def of the module that can be called -/
structure Cl (P : Program) (w : World) (K : PySem.W.Frag) (mg : Str → Option Value) (base : Heap) (k : Nat) (nm : Str) (ps : List Str) (sp : Sp) where
  f : Addr
  fd : FuncData
  ok : FnOk P w K mg base CX0 k f fd ps sp
  gl : mg nm = some (.ref f)
  kp : PySem.W.keepIn K (.ref f) = true
  bd : Binds K fd ps []
/-- .. where no guard stands -/
structure ClG (P : Program) (w : World) (K : PySem.W.Frag) (mg : Str → Option Value) (base : Heap) (k : Nat) (nm : Str) (ps : List Str) (sp : Sp) where
  f : Addr
  fd : FuncData
  ok : GFn P w K mg base (L2.CX P w) k f fd ps sp
  gl : mg nm = some (.ref f)
  kp : PySem.W.keepIn K (.ref f) = true
  bd : Binds K fd ps []
/-- .. told by positional values -/
structure ClR (P : Program) (w : World) (K : PySem.W.Frag) (mg : Str → Option Value) (base : Heap) (k : Nat) (nm : Str) (sp : Sp) where
  f : Addr
  ok : FnR P w K mg base CX0 k f sp
  gl : mg nm = some (.ref f)
  kp : PySem.W.keepIn K (.ref f) = true
/-- a method of the class at C -/
structure Mt (P : Program) (w : World) (K : PySem.W.Frag) (mg : Str → Option Value) (base : Heap) (k : Nat) (C : Addr) (m : Str) (ps : List Str) (sp : Sp) where
  f : Addr
  fd : FuncData
  me : Meth K C m f
  ok : FnOk P w K mg base CX0 k f fd ps sp
  bd : Binds K fd ps []
/-- .. with the keyword many, which is 1 where it is not told; n: the parameters ahead -/
structure MtK (P : Program) (w : World) (K : PySem.W.Frag) (mg : Str → Option Value) (base : Heap) (k : Nat) (C : Addr) (m : Str) (ps : List Str) (n : Nat) (sp : Sp) where
  f : Addr
  fd : FuncData
  me : Meth K C m f
  ok : FnOk P w K mg base CX0 k f fd ps sp
  ds : List Value
  vd : Vals [.int 1] ds
  bd : Binds K fd ps ds
  kb : KBn K fd ps n ["many"] (fun us ws => us ++ ws) (fun vs zs => vs ++ zs)
/-- a property of the class at C -/
structure Pt (P : Program) (w : World) (K : PySem.W.Frag) (mg : Str → Option Value) (base : Heap) (k : Nat) (C : Addr) (m : Str) (sp : Sp) where
  f : Addr
  fd : FuncData
  pa : Addr
  po : PropOf K C m pa f
  ok : FnOk P w K mg base CX0 k f fd ["self"] sp
  bd : Binds K fd ["self"] []
theorem lent_kb {K : PySem.W.Frag} {f : Addr} {fd : FuncData} (F : Fun K "lent" "Debts.lent" sLent f fd) : KBn K fd ["self", "place", "many"] 2 ["many"] (fun us ws => us ++ ws) (fun vs zs => vs ++ zs) := by
  obtain ⟨oc, od, kV, doc, pm, an, cdv, ct, osl, rfl, lk, hcd⟩ := F.ex
  exact ⟨fun s us ws X l1 l2 => match us, ws, l1, l2 with | [_, _], [_], _, _ => .of_eq rfl, fun r q => r.append q⟩
theorem moved_kb {K : PySem.W.Frag} {f : Addr} {fd : FuncData} (F : Fun K "moved" "Debts.moved" sMoved f fd) : KBn K fd ["self", "giver", "taker", "many"] 3 ["many"] (fun us ws => us ++ ws) (fun vs zs => vs ++ zs) := by
  obtain ⟨oc, od, kV, doc, pm, an, cdv, ct, osl, rfl, lk, hcd⟩ := F.ex
  exact ⟨fun s us ws X l1 l2 => match us, ws, l1, l2 with | [_, _, _], [_], _, _ => .of_eq rfl, fun r q => r.append q⟩
theorem lent_bd {K : PySem.W.Frag} {f : Addr} {fd : FuncData} (F : FunD K "lent" "Debts.lent" (defArgs sLent) (defBody sLent) (defScope sLent) [] [("many", .int 1)] f fd) : ∃ ds, Vals [.int 1] ds ∧ Binds K fd ["self", "place", "many"] ds :=
  F.binds0 2 (by simp) rfl fun D doc pm an cdv ct us ks h1 h2 => match us, ks, h1, h2 with | [_, _], [_], _, _ => ⟨_, _, _, _, _, _, rfl, rfl, rfl⟩
theorem moved_bd {K : PySem.W.Frag} {f : Addr} {fd : FuncData} (F : FunD K "moved" "Debts.moved" (defArgs sMoved) (defBody sMoved) (defScope sMoved) [] [("many", .int 1)] f fd) : ∃ ds, Vals [.int 1] ds ∧ Binds K fd ["self", "giver", "taker", "many"] ds :=
  F.binds0 3 (by simp) rfl fun D doc pm an cdv ct us ks h1 h2 => match us, ks, h1, h2 with | [_, _, _], [_], _, _ => ⟨_, _, _, _, _, _, rfl, rfl, rfl⟩
end OwW


namespace OwW
open PySem PyProof.Rows L2 L2H OwX Rd Evl
theorem not_dice {H : Hp} {a x : Addr} {o : HO} (hd : HasDice H a) (h : H x = some o) (ne : ∀ l, o ≠ .lst l) : x ≠ a := fun e => by
  obtain ⟨l, s, n, _, q⟩ := hd
  rw [e, q] at h
  cases h
  exact ne _ rfl
theorem IsWeb.wo' {C : Addr} {H : Hp} {a wb : Addr} {ks : List Str} {ys : TL} (hd : HasDice H a) (w : IsWeb C H wb ks ys) : IsWeb C (wo a H) wb ks ys := by
  obtain ⟨ok, dx, p, q, n, nl, h1, wa, h3, h4, h5⟩ := w
  refine ⟨ok, dx, p, q, n, nl, wo_of h1 (not_dice hd h1 fun _ => nofun), ⟨wo_of wa.ps (not_dice hd wa.ps fun _ => nofun), wo_of wa.ts (not_dice hd wa.ts fun _ => nofun), fun t ht => wo_of (wa.ta t ht) (not_dice hd (wa.ta t ht) fun _ => nofun)⟩, wo_of h3 (not_dice hd h3 fun _ => nofun), h4, fun t ht => ?_⟩
  have z := h5 t ht
  exact ⟨wo_of z.at_ (not_dice hd z.at_ fun _ => nofun), z.pm, z.so⟩
theorem IsDebts.wo' {CW CD : Addr} {H : Hp} {a x wb : Addr} {ks : List Str} {ys : TL} {f : Str → Int} (hd : HasDice H a) (d : IsDebts CW CD H x wb ks ys f) : IsDebts CW CD (wo a H) x wb ks ys f := by
  obtain ⟨dx, n, h1, h2⟩ := d.at_
  exact ⟨d.web.wo' hd, dx, n, wo_of h1 (not_dice hd h1 fun _ => nofun), wo_of h2 (not_dice hd h2 fun _ => nofun)⟩
theorem am_wo {H : Hp} {a p : Addr} {kvs : List (Key × V)} (hd : HasDice H a) (h : H p = some (.dK kvs)) : wo a H p = some (.dK kvs) := wo_of h (not_dice hd h fun _ => nofun)
theorem lent_cons (ts : List (Str × Str)) (t : Str × Str) (am pl : Str → Int) (k : Str) : lentF (t :: ts) am pl k = lentF ts am pl k + (if hits k t = true then pl (far k t) - pl k else 0) := by
  unfold lentF endsL
  by_cases c : hits k t = true
  · rw [if_pos c, List.filter_cons_of_pos c]
    simp only [List.map_cons, List.length_cons, List.sum_cons]
    push_cast
    rw [Int.add_mul]
    omega
  · rw [if_neg c, List.filter_cons_of_neg c]
    omega
theorem far_in {ks : List Str} {ts : List (Str × Str)} (h : ∀ t ∈ ts, t.1 ∈ ks ∧ t.2 ∈ ks ∧ OwL2.lt t.1 t.2 = true) {t : Str × Str} (ht : t ∈ ts) (k : Str) : far k t ∈ ks := by
  unfold far
  split
  · exact (h t ht).2.1
  · exact (h t ht).1
theorem lent_bound {ks : List Str} {am pl : Str → Int} {A B : Nat} {k : Str} (hk : k ∈ ks) (ha : (am k).natAbs ≤ A) (hp : ∀ o ∈ ks, (pl o).natAbs ≤ B) : ∀ ts : List (Str × Str), (∀ t ∈ ts, t.1 ∈ ks ∧ t.2 ∈ ks ∧ OwL2.lt t.1 t.2 = true) → (lentF ts am pl k).natAbs ≤ A + ts.length * (2 * B)
  | [], _ => by
    rw [lent_nil]
    simp
    exact ha
  | t :: ts, h => by
    have ih := lent_bound hk ha hp ts fun u hu => h u (List.mem_cons_of_mem _ hu)
    rw [lent_cons, List.length_cons, Nat.add_mul]
    have f := hp _ (far_in h List.mem_cons_self k)
    have g := hp k hk
    split <;> omega
/-- two plans one after the other are their sum -/
theorem lent_twice (am p q : Str → Int) (k : Str) : ∀ ts : List (Str × Str), lentF ts (lentF ts am p) q k = lentF ts am (fun o => p o + q o) k
  | [] => by rw [lent_nil, lent_nil, lent_nil]
  | t :: ts => by
    have ih := lent_twice am p q k ts
    have e : ∀ (us : List (Str × Str)) (c : Str → Int) (r : Str → Int), lentF us c r k = c k + lentF us (fun _ => 0) r k := fun us c r => by unfold lentF; dsimp only; omega
    rw [e, lent_cons ts t am p, lent_cons ts t (fun _ => 0) q, lent_cons ts t am]
    rw [e] at ih
    split <;> omega
theorem lent_same {ts : List (Str × Str)} {am pl : Str → Int} {k : Str} {c : Int} {ks : List Str} (h : ∀ t ∈ ts, t.1 ∈ ks ∧ t.2 ∈ ks ∧ OwL2.lt t.1 t.2 = true) (hk : k ∈ ks) (hc : ∀ o ∈ ks, pl o = c) : lentF ts am pl k = am k := by
  induction ts with
  | nil => rw [lent_nil]
  | cons t ts ih =>
    rw [lent_cons, ih fun u hu => h u (List.mem_cons_of_mem _ hu), hc _ (far_in h List.mem_cons_self k), hc k hk]
    split <;> omega
theorem mov_step (f : Str → Int) (x y : Str) (n : Int) (k : Str) : movF f x y n k = f k + n * stepF x y k := by
  unfold movF updF stepF
  by_cases c1 : k = y
  · subst c1
    by_cases c2 : k = x
    · subst c2
      simp
    · simp [c2]
  · by_cases c2 : k = x
    · subst c2
      simp [c1]
      omega
    · simp [c1, c2]
theorem one_set (x : Str) (n : Int) (k : Str) : oneF x n k = n * setF [x] k := by
  unfold oneF setF
  by_cases c : k = x <;> simp [c]
end OwW


namespace OwW
open PySem PyProof.Rows L2 L2H OwX Rd Evl
abbrev sLSteps : Stmt := top 66
abbrev NSt : List Str := ["_law_dice_here", "_law_plain_here", "_law_debts_here", "_law_made_here", "_law_place", "_law_how_often", "_law_some", "_law_giver", "_law_taker", "_law_due", "_law_there", "_law_one"]
/-- the callees of the law's two checks -/
structure Cs (P : Program) (w : World) (K : PySem.W.Frag) (mg : Str → Option Value) (base : Heap) (CW CD : Addr) where
  roll : Cl P w K mg base 1 "_law_roll" ["_law_dice_here", "_law_total"] spRoll
  pick : Cl P w K mg base 2 "_law_pick" ["_law_dice_here", "_law_items"] (spPick K)
  num : Cl P w K mg base 2 "_law_number" ["_law_dice_here"] spLNum
  made : Cl P w K mg base 9 "_law_debts_made" ["_law_plain_here", "_law_debts_here"] (spLDMade CW CD)
  lent : Cl P w K mg base 2 "_law_lent" ["_law_plain_here", "_law_debts_here", "_law_places", "_law_times"] spLLent
  added : Cl P w K mg base 1 "_law_added" ["_law_one", "_law_other", "_law_times"] spLAdded
  step : Cl P w K mg base 1 "_law_step" ["_law_plain_here", "_law_giver", "_law_taker"] spLStep
  isd : ClG P w K mg base 9 "_law_is_debts" ["_law_told", "_law_plain_here", "_law_debts_here"] (spLIsD CW CD)
  mL : MtK P w K mg base 8 CD "lent" ["self", "place", "many"] 2 (spLent CW CD)
  mM : MtK P w K mg base 7 CD "moved" ["self", "giver", "taker", "many"] 3 (spMoved CW CD)
  mT : Mt P w K mg base 8 CD "lent_together" ["self", "places"] (spLentT CW CD)
  eq : Mt P w K mg base 2 CD "__eq__" ["self", "other"] (spDEq CW CD)
  oe : OwnCmp K CD eq.f
  dk : DebtsK K CD
  tuple : mg "tuple" = none
/-- the first check of the law -/
def spLSteps : Sp := fun vs H Q _ => ∃ (a d m : Addr) (ks : List Str) (zs : TL) (f : Str → Int), vs = [.ref a, .ref d, .ref m] ∧ HasDice H a ∧ PlainAt (wo a H) d ks zs ∧ WebOk ks (zs.map (·.2)) ∧ wo a H m = some (.dK (amK ks f)) ∧ (∀ k ∈ ks, (f k).natAbs ≤ 1000) ∧ ∀ H', DX a H H' → Q (.bl true) H'
section
variable {P : Program} {w : World} {K : PySem.W.Frag} {mg : Str → Option Value} {base : Heap}
theorem scLSteps : FnScope NSt ["_law_dice_here", "_law_plain_here", "_law_debts_here"] (defScope sLSteps) := ⟨rfl, rfl, rfl, by decide +kernel, rfl, by decide +kernel, by decide +kernel⟩
theorem ok_lsteps {f CW CD : Addr} {fd : FuncData} (F : Fun K "_law_steps_right" "_law_steps_right" sLSteps f fd) (c : Cs P w K mg base CW CD) : GFn P w K mg base (L2.CX P w) 10 f fd ["_law_dice_here", "_law_plain_here", "_law_debts_here"] spLSteps := by
  have nd := scLSteps.nd
  have DK := c.dk
  have OE := c.oe
  refine gfn_of F scLSteps (fun vs H Q E h => ?_) (fun cdv A outer s H vs Q E hr hg h => ⟨_, (pss_cons (ps_par3 (i := 3) (j := 4) (l := 5) rfl nd rfl rfl rfl (by decide) (by decide) (by decide) rfl rfl rfl (pa_cons (pe_call c.made.ok (hr.mono (by decide)) (by rfl) c.made.gl c.made.kp c.made.bd .nil pass0 (pa_cons (pv 1) (pa_cons (pv 2) pa_nil))) (pa_cons (pe_call c.pick.ok (hr.mono (by decide)) (by rfl) c.pick.gl c.pick.kp c.pick.bd .nil pass0 (pa_cons (pv 0) (pa_cons (pe_dget (units1 hr) (pv 1) pe_str (fun _ _ => rfl)) pa_nil))) (pa_cons (pe_call c.num.ok (hr.mono (by decide)) (by rfl) c.num.gl c.num.kp c.num.bd .nil pass0 (pa_cons (pv 0) pa_nil)) pa_nil))) rfl)
    (pss_cons (ps_if (pt_not (pt_val (pe_callG c.isd.ok (hr.mono (by decide)) hg (by rfl) c.isd.gl c.isd.kp c.isd.bd (fun _ => never_at) (pa_cons (pe_meth (pv 3) DK.cls c.mL.me c.mL.ok (hr.mono (by decide)) c.mL.bd c.mL.vd pass0 (pa_cons (pv 4) pa_nil)) (pa_cons (pv 1) (pa_cons (pe_call c.lent.ok (hr.mono (by decide)) (by rfl) c.lent.gl c.lent.kp c.lent.bd .nil pass0 (pa_cons (pv 1) (pa_cons (pv 2) (pa_cons (pe_lst (pa_cons (pv 4) pa_nil)) (pa_cons pe_int pa_nil))))) pa_nil)))) (fun _ => rfl))) (pss_one (ps_ret pe_bl)) pss_nil)
    (pss_cons (ps_if (pt_not (pt_val (pe_callG c.isd.ok (hr.mono (by decide)) hg (by rfl) c.isd.gl c.isd.kp c.isd.bd (fun _ => never_at) (pa_cons (pe_methN (pv 3) DK.cls c.mL.me c.mL.ok (hr.mono (by decide)) c.mL.kb pass0 (pa_cons (pv 4) pa_nil) (pk_cons (pv 5) pk_nil)) (pa_cons (pv 1) (pa_cons (pe_call c.lent.ok (hr.mono (by decide)) (by rfl) c.lent.gl c.lent.kp c.lent.bd .nil pass0 (pa_cons (pv 1) (pa_cons (pv 2) (pa_cons (pe_lst (pa_cons (pv 4) pa_nil)) (pa_cons (pv 5) pa_nil))))) pa_nil)))) (fun _ => rfl))) (pss_one (ps_ret pe_bl)) pss_nil)
    (pss_cons (ps_setLc (i := 6) (own := [("_law_one", 11)]) (g := gName 11) (tt := tTest (tOp rEq (tCall spRoll [] E0 (tCons (tVar 0) (tCons (tC (.int 2)) tNil))) (tC (.int 0)))) rfl nd rfl rfl (sw_true rfl rfl rfl (by decide +kernel)) (pi_list (pe_dget (units1 hr) (pv 1) pe_str (fun _ _ => rfl))) (blkOk_by (own := [("_law_one", 11)]) (N := NSt) (sc := defScope sLSteps) (by decide +kernel)) (fun _ _ _ _ _ => (pg_name (i := 11) nd rfl (Or.inl rfl))) (fun _ _ _ _ _ => (pts_one (pt_cmpR op_eq (pe_call c.roll.ok (hr.mono (by decide)) (by rfl) c.roll.gl c.roll.kp c.roll.bd .nil pass0 (pa_cons (pv 0) (pa_cons pe_int pa_nil))) pe_int (nomark _)))) (fun _ _ _ _ _ => (pv 11)))
    (pss_cons (ps_if (pt_not (pt_val (pe_callG c.isd.ok (hr.mono (by decide)) hg (by rfl) c.isd.gl c.isd.kp c.isd.bd (fun _ => never_at) (pa_cons (pe_meth (pv 3) DK.cls c.mT.me c.mT.ok (hr.mono (by decide)) c.mT.bd .nil pass0 (pa_cons (pe_callTy call_tuple_of (by rfl) c.tuple (by decide +kernel) (pa_cons (pv 6) pa_nil)) pa_nil)) (pa_cons (pv 1) (pa_cons (pe_call c.lent.ok (hr.mono (by decide)) (by rfl) c.lent.gl c.lent.kp c.lent.bd .nil pass0 (pa_cons (pv 1) (pa_cons (pv 2) (pa_cons (pv 6) (pa_cons pe_int pa_nil))))) pa_nil)))) (fun _ => rfl))) (pss_one (ps_ret pe_bl)) pss_nil)
    (pss_cons (ps_par (i := 7) (j := 8) rfl nd rfl rfl (by decide) rfl rfl (pa_cons (pv 4) (pa_cons (pe_call c.pick.ok (hr.mono (by decide)) (by rfl) c.pick.gl c.pick.kp c.pick.bd .nil pass0 (pa_cons (pv 0) (pa_cons (pe_dget (units1 hr) (pv 1) pe_str (fun _ _ => rfl)) pa_nil))) pa_nil)) rfl)
    (pss_cons (ps_set (i := 9) nd rfl (Or.inl rfl) (pe_call c.added.ok (hr.mono (by decide)) (by rfl) c.added.gl c.added.kp c.added.bd .nil pass0 (pa_cons (pv 2) (pa_cons (pe_call c.step.ok (hr.mono (by decide)) (by rfl) c.step.gl c.step.kp c.step.bd .nil pass0 (pa_cons (pv 1) (pa_cons (pv 7) (pa_cons (pv 8) pa_nil)))) (pa_cons (pv 5) pa_nil)))))
    (pss_cons (ps_if (pt_not (pt_val (pe_callG c.isd.ok (hr.mono (by decide)) hg (by rfl) c.isd.gl c.isd.kp c.isd.bd (fun _ => never_at) (pa_cons (pe_methN (pv 3) DK.cls c.mM.me c.mM.ok (hr.mono (by decide)) c.mM.kb pass0 (pa_cons (pv 7) (pa_cons (pv 8) pa_nil)) (pk_cons (pv 5) pk_nil)) (pa_cons (pv 1) (pa_cons (pv 9) pa_nil)))) (fun _ => rfl))) (pss_one (ps_ret pe_bl)) pss_nil)
    (pss_cons (ps_if (pt_not (pt_val (pe_callG c.isd.ok (hr.mono (by decide)) hg (by rfl) c.isd.gl c.isd.kp c.isd.bd (fun _ => never_at) (pa_cons (pe_meth (pv 3) DK.cls c.mM.me c.mM.ok (hr.mono (by decide)) c.mM.bd c.mM.vd pass0 (pa_cons (pv 7) (pa_cons (pv 8) pa_nil))) (pa_cons (pv 1) (pa_cons (pe_call c.added.ok (hr.mono (by decide)) (by rfl) c.added.gl c.added.kp c.added.bd .nil pass0 (pa_cons (pv 2) (pa_cons (pe_call c.step.ok (hr.mono (by decide)) (by rfl) c.step.gl c.step.kp c.step.bd .nil pass0 (pa_cons (pv 1) (pa_cons (pv 7) (pa_cons (pv 8) pa_nil)))) (pa_cons pe_int pa_nil)))) pa_nil)))) (fun _ => rfl))) (pss_one (ps_ret pe_bl)) pss_nil)
    (pss_cons (ps_set (i := 10) nd rfl (Or.inl rfl) (pe_methN (pv 3) DK.cls c.mL.me c.mL.ok (hr.mono (by decide)) c.mL.kb pass0 (pa_cons (pv 4) pa_nil) (pk_cons (pv 5) pk_nil)))
    (pss_one (ps_ret (pe_and (pe_cmpR (op_eqOwn c.eq.ok OE c.eq.bd (hr.mono (by decide))) (pe_meth (pv 3) DK.cls c.mT.me c.mT.ok (hr.mono (by decide)) c.mT.bd .nil pass0 (pa_cons (pe_callTy call_tuple_of (by rfl) c.tuple (by decide +kernel) (pa_cons (pe_dget (units1 hr) (pv 1) pe_str (fun _ _ => rfl)) pa_nil)) pa_nil)) (pv 3) (nomark _)) (pe_one (pe_cmpR (op_eqOwn c.eq.ok OE c.eq.bd (hr.mono (by decide))) (pe_methN (pv 10) DK.cls c.mL.me c.mL.ok (hr.mono (by decide)) c.mL.kb pass0 (pa_cons (pv 4) pa_nil) (pk_cons (pe_op op_sub pe_int (pv 5)) pk_nil)) (pv 3) (nomark _)))))))))))))))), ?_⟩)
  · obtain ⟨a, d, m, ks, zs, f, rfl, _⟩ := h
    rfl
  · obtain ⟨a, d, m, ks, zs, fn, rfl, hd, pl, ok, hm, fb, k⟩ := h
    have k9 := ok.nine
    have k2 := ok.two
    have few := ok.few
    have wH := wo_in a H
    walk_at "rd"
    unfold tPar3
    walk_at "rd"
    refine ⟨d, m, ks, zs, fn, rfl, pl.ex wH, ok, amK_numsF (wH _ _ hm) k9 (fun o ho => by have := fb o ho; omega), fun mo wb H1 e1 db nmo => ?_⟩
    walk_at "rd"
    have x1 : DX a H H1 := DX.of e1 hd
    have hd1 := x1.at_
    have pl1 := pl.ex x1.ex
    have hm1 := x1.ex _ _ hm
    have db1 := db.wo' hd1
    obtain ⟨kp, gk, hkp⟩ := pl1.places
    have ts := ok.ends
    have amb : ∀ (p : Str → Int) (B : Nat), B ≤ 60 → (∀ o, (p o).natAbs ≤ B) → ∀ o ∈ ks, (lentF (zs.map (·.2)) fn p o).natAbs < 10 ^ 60 := fun p B hB hp o ho => by
      have z := lent_bound (am := fn) (pl := p) (A := 1000) (B := B) ho (fb o ho) (fun q _ => hp q) _ ts
      have y : (zs.map (·.2)).length * (2 * B) ≤ 18 * 120 := Nat.mul_le_mul few (by omega)
      omega
    unfold tDGet
    walk_at "rd"
    refine ⟨d, _, rfl, gk H1 (wo_in a H1), ?_⟩
    walk_at "rd"
    refine pick_dx hd1 hkp (by rw [List.length_map]; omega) (by rw [List.length_map]; omega) fun x H2 hx x2 => ?_
    obtain ⟨b, bk, rfl⟩ := List.mem_map.mp hx
    walk_at "rd"
    refine ⟨a, rfl, x2.at_, fun n H3 nb x3 => ?_⟩
    have y3 : DX a H1 H3 := x2.trans x3
    have W3 := y3.ex.trans (wo_in a H3)
    refine ⟨_, _, _, rfl, ?_⟩
    walk_at "rd"
    unfold tMeth
    walk_at "rd"
    obtain ⟨dx, nn, o1, o2⟩ := db1.at_
    refine ⟨mo, dx, _, rfl, W3 _ _ o1, rfl, ?_⟩
    walk_at "rd"
    refine ⟨mo, wb, b, 1, ks, zs, fn, rfl, db1.ex W3, bk, by decide, fun r1 H4 e4 dr1 nr1 => ?_⟩
    have W4 := W3.trans e4
    walk_at "rd"
    refine ⟨small64 (n := 1) (by decide), fun p hp => ?_⟩
    have e5 : Ex H4 (upd H4 p (.lst [.str b])) := Ex.new hp
    have p5 : (upd H4 p (.lst [.str b])) p = some (.lst ([b].map V.str)) := upd_same
    generalize upd H4 p (.lst [.str b]) = H5 at e5 p5 ⊢
    have W5 := W4.trans e5
    walk_at "rd"
    refine ⟨d, m, p, 1, ks, [b], zs, fn, rfl, pl1.ex W5, ok, Nums.ofAm (W5 _ _ hm1), p5, by decide, fun q H6 e6 hq nq => ?_⟩
    have W6 := W5.trans e6
    walk_at "rd"
    refine ⟨r1, wb, d, q, ks, zs, zs, _, _, rfl, dr1.ex (e5.trans e6), pl1.ex W6, ok, rfl, Nums.ofAm hq, fun o ho => ?_, ?_, fun H7 e7 => ⟨_, rfl, ?_⟩⟩
    · rw [lentF_congr (one_set b 1)]
    · refine amb _ 1 (by decide) fun o => ?_
      unfold oneF
      split <;> decide
    have y7 : DX a H1 H7 := y3.then (((e4.trans e5).trans e6).trans e7)
    refine Rd.iteF (by decide) ?_
    clear e4 e5 e6 e7 W4 W5 W6 p5 hq nq hp nr1 dr1
    walk_at "rd"
    have W7 := y7.ex.trans (wo_in a H7)
    unfold tMethN
    walk_at "rd"
    refine ⟨mo, dx, _, rfl, W7 _ _ o1, rfl, ?_⟩
    walk_at "rd"
    refine ⟨rfl, rfl, mo, wb, b, n, ks, zs, fn, rfl, db1.ex W7, bk, by omega, fun r2 H8 e8 dr2 nr2 => ?_⟩
    walk_at "rd"
    refine ⟨small64 (n := 1) (by decide), fun p2 hp2 => ?_⟩
    have e9 : Ex H8 (upd H8 p2 (.lst [.str b])) := Ex.new hp2
    have p9 : (upd H8 p2 (.lst [.str b])) p2 = some (.lst ([b].map V.str)) := upd_same
    generalize upd H8 p2 (.lst [.str b]) = H9 at e9 p9 ⊢
    have W9 := W7.trans (e8.trans e9)
    walk_at "rd"
    refine ⟨d, m, p2, n, ks, [b], zs, fn, rfl, pl1.ex W9, ok, Nums.ofAm (W9 _ _ hm1), p9, by omega, fun q2 H10 e10 hq2 nq2 => ?_⟩
    have W10 := W9.trans e10
    walk_at "rd"
    refine ⟨r2, wb, d, q2, ks, zs, zs, _, _, rfl, dr2.ex (e9.trans e10), pl1.ex W10, ok, rfl, Nums.ofAm hq2, fun o ho => ?_, ?_, fun H11 e11 => ⟨_, rfl, ?_⟩⟩
    · rw [lentF_congr (one_set b n)]
    · refine amb _ 60 (by decide) fun o => ?_
      unfold oneF
      split
      · exact nb
      · decide
    have y11 : DX a H1 H11 := y7.then (((e8.trans e9).trans e10).trans e11)
    refine Rd.iteF (by decide) ?_
    clear e8 e9 e10 e11 W9 W10 p9 hq2 nq2 hp2 nr2 dr2
    walk_at "rd"
    refine Rd.lcm' (Rd.ilist' ?_)
    walk_at "rd"
    have W11 := y11.ex.trans (wo_in a H11)
    refine ⟨d, _, rfl, gk H11 W11, kp, rfl, ⟨_, SqL.of (W11 _ _ hkp)⟩, fun D hD => ?_⟩
    have Da : D ≠ a := fresh_ne y11.at_ hD
    refine lc_it (walk_list (xs := ks.map V.str)) (fun i H' => DX a H11 H' ∧ ∃ es : List Str, wo a H' D = some (.lst (es.map V.str)) ∧ es.Sublist (ks.take i)) ⟨DX.of (Ex.new hD) y11.at_, [], wo_of upd_same Da, List.nil_sublist _⟩ (fun i H' _ hP => SqL.of ((y11.trans hP.1).ex.trans (wo_in a H') _ _ hkp)) (fun i z Ha Hb hi hP hY => ?_) (fun H12 hP => ?_)
    · obtain ⟨xa, es, hes, sub⟩ := hP
      obtain ⟨rfl, hz⟩ := hY
      rw [List.getElem?_map] at hz
      obtain ⟨e, he, rfl⟩ := Option.map_eq_some_iff.mp hz
      have tk : ks.take (i + 1) = ks.take i ++ [e] := by
        rw [List.take_add_one, he]
        rfl
      show _ ∧ _
      refine ⟨rfl, ?_⟩
      unfold tTest tOp
      walk_at "rd"
      refine roll_dx xa.at_ (by decide) (by decide) fun r Hc _ _ xr => ?_
      walk_at "rd"
      refine ⟨rfl, _, rfl, ?_⟩
      have D1 := xr.ex _ _ hes
      by_cases c0 : V.int r = V.int 0
      · rw [decide_eq_true c0]
        refine Rd.iteT rfl ?_
        walk_at "rd"
        have el := sub.length_le
        rw [List.length_take] at el
        refine ⟨es.map V.str, wo_in a _ _ _ D1, sz_lt (by rw [List.length_map]; omega), (xa.trans xr).mut hD Da, es ++ [e], wo_of ?_ Da, ?_⟩
        · rw [upd_same, List.map_append]
          rfl
        · rw [tk]
          exact sub.append (List.Sublist.refl _)
      · rw [decide_eq_false c0]
        refine Rd.iteF (by decide) ?_
        refine ⟨xa.trans xr, es, D1, ?_⟩
        rw [tk]
        exact sub.trans (List.sublist_append_left _ _)
    · obtain ⟨x12, es, hes, sub⟩ := hP
      rw [List.length_map, List.take_length] at sub
      have y12 := y11.trans x12
      have W12 := y12.ex.trans (wo_in a H12)
      have el := sub.length_le
      have esub : ∀ e ∈ es, e ∈ ks := fun e he => sub.subset he
      have easc := ok.asc.sublist sub
      walk_at "rd"
      refine ⟨mo, dx, _, rfl, W12 _ _ o1, rfl, ?_⟩
      walk_at "rd"
      refine ⟨D, _, rfl, Or.inl ⟨SqL.of (wo_in a _ _ _ hes), fun l hl => ?_⟩⟩
      have e13 : Ex H12 (upd H12 l (.tup (es.map V.str))) := Ex.new hl
      have l13 : (upd H12 l (.tup (es.map V.str))) l = some (.tup (es.map V.str)) := upd_same
      generalize upd H12 l (.tup (es.map V.str)) = H13 at e13 l13 ⊢
      have W13 := W12.trans e13
      have s13 := e13 _ _ (wo_in a _ _ _ hes)
      walk_at "rd"
      refine ⟨mo, wb, l, ks, es, zs, fn, rfl, db1.ex W13, l13, by omega, esub, easc, fun r3 H14 e14 dr3 nr3 => ?_⟩
      have W14 := W13.trans e14
      walk_at "rd"
      refine ⟨d, m, D, 1, ks, es, zs, fn, rfl, pl1.ex W14, ok, Nums.ofAm (W14 _ _ hm1), e14 _ _ s13, by decide, fun q3 H15 e15 hq3 nq3 => ?_⟩
      have W15 := W14.trans e15
      walk_at "rd"
      refine ⟨r3, wb, d, q3, ks, zs, zs, _, _, rfl, dr3.ex e15, pl1.ex W15, ok, rfl, Nums.ofAm hq3, fun o ho => ?_, ?_, fun H16 e16 => ⟨_, rfl, ?_⟩⟩
      · rw [lentF_congr (pl' := fun k => 1 * setF es k) fun k => (Int.one_mul _).symm]
      · refine amb _ 1 (by decide) fun o => ?_
        unfold setF
        split <;> decide
      have y16 : DX a H1 H16 := y12.then (((e13.trans e14).trans e15).trans e16)
      refine Rd.iteF (by decide) ?_
      clear e13 e14 e15 e16 W13 W14 W15 hq3 nq3 nr3 dr3 l13 s13 hl
      walk_at "rd"
      unfold tPar
      walk_at "rd"
      have W16 := y16.ex.trans (wo_in a H16)
      refine ⟨d, _, rfl, gk H16 W16, ?_⟩
      walk_at "rd"
      refine pick_dx y16.at_ (y16.ex _ _ hkp) (by rw [List.length_map]; omega) (by rw [List.length_map]; omega) fun y0 H17 hy x17 => ?_
      obtain ⟨y, yk, rfl⟩ := List.mem_map.mp hy
      walk_at "rd"
      have y17 := y16.trans x17
      have W17 := y17.ex.trans (wo_in a H17)
      refine ⟨_, _, rfl, ?_⟩
      walk_at "rd"
      have mv : ∀ (j : Int), j.natAbs ≤ 60 → ∀ o ∈ ks, (movF fn b y j o).natAbs < 10 ^ 60 := fun j hj o ho => by
        have z := fb o ho
        rw [mov_step]
        unfold stepF
        split <;> split <;> omega
      refine ⟨d, b, y, ks, zs, rfl, pl1.ex W17, ok, fun sp H18 e18 hsp nsp => ?_⟩
      have W18 := W17.trans e18
      walk_at "rd"
      have msp : m ≠ sp := fun e => by
        have z := W17 _ _ hm1
        rw [e, nsp] at z
        exact nomatch z
      refine ⟨m, sp, n, ks, fn, stepF b y, rfl, by omega, msp, W18 _ _ hm1, hsp, asc_nodup ok.asc, k9, fun du H19 e19 hdu ndu => ?_⟩
      have W19 := W18.trans e19
      walk_at "rd"
      refine ⟨mo, dx, _, rfl, W19 _ _ o1, rfl, ?_⟩
      walk_at "rd"
      refine ⟨rfl, rfl, mo, wb, b, y, n, ks, zs, fn, rfl, db1.ex W19, bk, yk, by omega, fun r4 H20 e20 dr4 nr4 => ?_⟩
      have W20 := W19.trans e20
      walk_at "rd"
      refine ⟨r4, wb, d, du, ks, zs, zs, _, _, rfl, dr4, pl1.ex W20, ok, rfl, Nums.ofAm (e20 _ _ hdu), fun o ho => mov_step fn b y n o, mv n nb, fun H21 e21 => ⟨_, rfl, ?_⟩⟩
      have y21 : DX a H1 H21 := y17.then (((e18.trans e19).trans e20).trans e21)
      refine Rd.iteF (by decide) ?_
      clear e18 e19 e20 e21 W18 W19 W20 hsp nsp hdu ndu dr4 nr4
      walk_at "rd"
      have W21 := y21.ex.trans (wo_in a H21)
      refine ⟨mo, dx, _, rfl, W21 _ _ o1, rfl, ?_⟩
      walk_at "rd"
      refine ⟨mo, wb, b, y, 1, ks, zs, fn, rfl, db1.ex W21, bk, yk, by decide, fun r5 H22 e22 dr5 nr5 => ?_⟩
      have W22 := W21.trans e22
      walk_at "rd"
      refine ⟨d, b, y, ks, zs, rfl, pl1.ex W22, ok, fun s2 H23 e23 hs2 ns2 => ?_⟩
      have W23 := W22.trans e23
      walk_at "rd"
      have ms2 : m ≠ s2 := fun e => by
        have z := W22 _ _ hm1
        rw [e, ns2] at z
        exact nomatch z
      refine ⟨m, s2, 1, ks, fn, stepF b y, rfl, by decide, ms2, W23 _ _ hm1, hs2, asc_nodup ok.asc, k9, fun d2 H24 e24 hd2 nd2 => ?_⟩
      have W24 := W23.trans e24
      walk_at "rd"
      refine ⟨r5, wb, d, d2, ks, zs, zs, _, _, rfl, dr5.ex (e23.trans e24), pl1.ex W24, ok, rfl, Nums.ofAm hd2, fun o ho => mov_step fn b y 1 o, mv 1 (by decide), fun H25 e25 => ⟨_, rfl, ?_⟩⟩
      have y25 : DX a H1 H25 := y21.then (((e22.trans e23).trans e24).trans e25)
      refine Rd.iteF (by decide) ?_
      clear e22 e23 e24 e25 W22 W23 W24 hs2 ns2 hd2 nd2 dr5 nr5
      walk_at "rd"
      have W25 := y25.ex.trans (wo_in a H25)
      refine ⟨mo, dx, _, rfl, W25 _ _ o1, rfl, ?_⟩
      walk_at "rd"
      refine ⟨rfl, rfl, mo, wb, b, n, ks, zs, fn, rfl, db1.ex W25, bk, by omega, fun th H26 e26 dth nth => ?_⟩
      have W26 := W25.trans e26
      walk_at "rd"
      refine Rd.andv ?_
      walk_at "rd"
      refine ⟨mo, dx, _, rfl, W26 _ _ o1, rfl, ?_⟩
      walk_at "rd"
      refine ⟨d, _, rfl, gk H26 W26, ?_⟩
      walk_at "rd"
      refine ⟨kp, _, rfl, Or.inl ⟨SqL.of (W26 _ _ hkp), fun l2 hl2 => ?_⟩⟩
      have e27 : Ex H26 (upd H26 l2 (.tup (ks.map V.str))) := Ex.new hl2
      have l27 : (upd H26 l2 (.tup (ks.map V.str))) l2 = some (.tup (ks.map V.str)) := upd_same
      generalize upd H26 l2 (.tup (ks.map V.str)) = H27 at e27 l27 ⊢
      have W27 := W26.trans e27
      walk_at "rd"
      refine ⟨mo, wb, l2, ks, ks, zs, fn, rfl, db1.ex W27, l27, k9, fun _ h => h, ok.asc, fun r6 H28 e28 dr6 nr6 => ?_⟩
      have W28 := W27.trans e28
      walk_at "rd"
      obtain ⟨dx6, n6, g1, g2⟩ := dr6.at_
      have al : (ks.all fun o => decide (lentF (zs.map (·.2)) fn (setF ks) o = fn o)) = true := List.all_eq_true.mpr fun o ho => decide_eq_true (lent_same (c := 1) ts ho fun q hq => if_pos hq)
      refine ⟨r6, mo, dx6, dx, _, _, rfl, rfl, g1, W28 _ _ o1, r6, mo, wb, ks, zs, _, fn, rfl, dr6, db1.ex W28, _, rfl, ?_⟩
      rw [al]
      refine ⟨_, rfl, ?_⟩
      refine Rd.iteT rfl ?_
      walk_at "rd"
      obtain ⟨dx7, n7, t1, t2⟩ := dth.at_
      refine ⟨th, dx7, _, rfl, e28 _ _ (e27 _ _ t1), rfl, ?_⟩
      walk_at "rd"
      refine ⟨rfl, rfl, th, wb, b, 0 - n, ks, zs, _, rfl, dth.ex (e27.trans e28), bk, by omega, fun r7 H29 e29 dr7 nr7 => ?_⟩
      have W29 := W28.trans e29
      walk_at "rd"
      obtain ⟨dx8, n8, q1, q2⟩ := dr7.at_
      have al2 : (ks.all fun o => decide (lentF (zs.map (·.2)) (lentF (zs.map (·.2)) fn (oneF b n)) (oneF b (0 - n)) o = fn o)) = true := List.all_eq_true.mpr fun o ho => decide_eq_true (by
        rw [lent_twice]
        refine lent_same (c := 0) ts ho fun q hq => ?_
        unfold oneF
        split <;> omega)
      refine ⟨r7, mo, dx8, dx, _, _, rfl, rfl, q1, W29 _ _ o1, r7, mo, wb, ks, zs, _, fn, rfl, dr7, db1.ex W29, _, rfl, ?_⟩
      rw [al2]
      exact k H29 (x1.trans (y25.then (((e26.trans e27).trans e28).trans e29)))
end
end OwW

namespace OwW
open PySem PyProof.Rows L2 L2H OwX Rd Evl
theorem ends_sym {ts : List (Str × Str)} {a b : Str} (h : b ∈ endsL ts a) : a ∈ endsL ts b := by
  unfold endsL at h ⊢
  obtain ⟨t, ht, rfl⟩ := List.mem_map.mp h
  obtain ⟨ht, hh⟩ := List.mem_filter.mp ht
  unfold hits at hh
  rw [Bool.or_eq_true, decide_eq_true_eq, decide_eq_true_eq] at hh
  refine List.mem_map.mpr ⟨t, List.mem_filter.mpr ⟨ht, ?_⟩, ?_⟩
  · unfold hits far
    rw [Bool.or_eq_true, decide_eq_true_eq, decide_eq_true_eq]
    by_cases c : t.1 = a
    · rw [if_pos c]
      exact .inr rfl
    · rw [if_neg c]
      exact .inl rfl
  · unfold far
    by_cases c : t.1 = a
    · rw [if_pos c]
      by_cases e : t.1 = t.2
      · rw [if_pos e, ← e, c]
      · rw [if_neg e, c]
    · rw [if_neg c, if_pos rfl]
      rcases hh with z | z
      · exact absurd z c
      · exact z
theorem ends_inK {ks : List Str} {ts : List (Str × Str)} (h : ∀ t ∈ ts, t.1 ∈ ks ∧ t.2 ∈ ks ∧ OwL2.lt t.1 t.2 = true) {a b : Str} (hb : b ∈ endsL ts a) : b ∈ ks := by
  unfold endsL at hb
  obtain ⟨t, ht, rfl⟩ := List.mem_map.mp hb
  exact far_in h (List.mem_filter.mp ht).1 a
theorem sum_gap (pl : Str → Int) (c : Int) : ∀ es : List Str, (es.map fun o => pl o - c).sum = (es.map pl).sum - es.length * c
  | [] => by simp
  | e :: es => by
    rw [List.map_cons, List.sum_cons, sum_gap pl c es, List.map_cons, List.sum_cons, List.length_cons]
    push_cast
    rw [Int.add_mul]
    omega
theorem lent_gap (ts : List (Str × Str)) (am pl : Str → Int) (k : Str) : lentF ts am pl k = am k + ((endsL ts k).map fun o => pl o - pl k).sum := by
  rw [sum_gap]
  unfold lentF
  omega
theorem sum_le : ∀ ns : List Int, (∀ x ∈ ns, x ≤ 0) → ns.sum ≤ 0
  | [], _ => Int.le_refl _
  | n :: ns, h => by
    have a := h n List.mem_cons_self
    have b := sum_le ns fun x hx => h x (List.mem_cons_of_mem _ hx)
    rw [List.sum_cons]
    omega
theorem sum_zero : ∀ ns : List Int, (∀ x ∈ ns, x ≤ 0) → ns.sum = 0 → ∀ x ∈ ns, x = 0
  | [], _, _, x, h => nomatch h
  | n :: ns, h, hs, x, hx => by
    have a := h n List.mem_cons_self
    have b := sum_le ns fun x hx => h x (List.mem_cons_of_mem _ hx)
    rw [List.sum_cons] at hs
    rcases List.mem_cons.mp hx with e | e
    · rw [e]
      omega
    · exact sum_zero ns (fun y hy => h y (List.mem_cons_of_mem _ hy)) (by omega) x e
theorem max_at (p : Str → Int) : ∀ ks : List Str, ks ≠ [] → ∃ k0 ∈ ks, ∀ k ∈ ks, p k ≤ p k0
  | [], h => absurd rfl h
  | [k], _ => ⟨k, List.mem_cons_self, fun o ho => by rw [List.mem_singleton.mp ho]; exact Int.le_refl _⟩
  | k :: j :: ks, _ => by
    obtain ⟨k0, h0, h1⟩ := max_at p (j :: ks) (by simp)
    by_cases c : p k ≤ p k0
    · exact ⟨k0, List.mem_cons_of_mem _ h0, fun o ho => by
        rcases List.mem_cons.mp ho with e | e
        · rw [e]; exact c
        · exact h1 o e⟩
    · exact ⟨k, List.mem_cons_self, fun o ho => by
        rcases List.mem_cons.mp ho with e | e
        · rw [e]; exact Int.le_refl _
        · have := h1 o e
          omega⟩
/-- debts that stay behind a plan: the plan has one number -/
theorem lent_const {ks : List Str} {ts : List (Str × Str)} {am pl : Str → Int} (ok : WebOk ks ts) (h : ∀ k ∈ ks, lentF ts am pl k = am k) : ∃ c : Int, ∀ k ∈ ks, pl k = c := by
  have two := ok.two
  obtain ⟨k0, h0, hm⟩ := max_at pl ks (fun e => by rw [e] at two; simp at two)
  have up : ∀ k ∈ ks, pl k = pl k0 → ∀ o ∈ endsL ts k, pl o = pl k0 := fun k hk e o ho => by
    have z := h k hk
    rw [lent_gap] at z
    have y := sum_zero ((endsL ts k).map fun o => pl o - pl k) (fun x hx => by
      obtain ⟨q, hq, rfl⟩ := List.mem_map.mp hx
      have := hm q (ends_inK ok.ends hq)
      omega) (by omega) (pl o - pl k) (List.mem_map.mpr ⟨o, ho, rfl⟩)
    omega
  have go : ∀ {x k : Str}, Rch ts x k → x ∈ ks → ((pl x = pl k0) ↔ (pl k = pl k0)) := fun {x k} r hx => by
    induction r with
    | here => exact Iff.rfl
    | on r hb ih =>
      rename_i a b
      have ha : a ∈ ks := rch_in ok.ends hx r
      have hbk := ends_inK ok.ends hb
      rw [ih]
      exact ⟨fun e => up a ha e b hb, fun e => up b hbk e a (ends_sym hb)⟩
  have x0 : ks.getD 0 "" ∈ ks := by
    cases ks with
    | nil => simp at two
    | cons k r => exact List.mem_cons_self
  exact ⟨pl k0, fun k hk => (go (ok.join k hk) x0).mp ((go (ok.join k0 h0) x0).mpr rfl)⟩
theorem sum_upd (f : Str → Int) (x : Str) (v : Int) : ∀ ks : List Str, ks.Nodup → x ∈ ks → (ks.map (updF f x v)).sum = (ks.map f).sum + (v - f x)
  | [], _, h => nomatch h
  | k :: ks, nd, h => by
    have nd' := List.nodup_cons.mp nd
    rw [List.map_cons, List.sum_cons, List.map_cons, List.sum_cons]
    by_cases c : k = x
    · subst c
      have e : ks.map (updF f k v) = ks.map f := List.map_congr_left fun o ho => by
        unfold updF
        rw [if_neg]
        intro e
        rw [e] at ho
        exact nd'.1 ho
      rw [e, show updF f k v k = v from if_pos rfl]
      omega
    · have hx : x ∈ ks := by
        rcases List.mem_cons.mp h with e | e
        · exact absurd e.symm c
        · exact e
      rw [sum_upd f x v ks nd'.2 hx, show updF f x v k = f k from if_neg c]
      omega
theorem lent_head (ts : List (Str × Str)) (t : Str × Str) (am pl : Str → Int) : lentF (t :: ts) am pl = lentF (ts ++ [t]) am pl := funext fun k => by rw [lent_cons, lent_snoc]
/-- the total stays -/
theorem lent_total {ks : List Str} {am pl : Str → Int} (nd : ks.Nodup) : ∀ ts : List (Str × Str), (∀ t ∈ ts, t.1 ∈ ks ∧ t.2 ∈ ks ∧ OwL2.lt t.1 t.2 = true) → (ks.map (lentF ts am pl)).sum = (ks.map am).sum
  | [], _ => by
    have e : lentF [] am pl = am := funext (lent_nil am pl)
    rw [e]
  | t :: ts, h => by
    have ht := h t List.mem_cons_self
    rw [lent_head, ← tie_lent ts t am pl (lt_ne ht.2.2)]
    unfold tieF
    rw [sum_upd _ _ _ ks nd ht.2.1, sum_upd _ _ _ ks nd ht.1, lent_total nd ts fun u hu => h u (List.mem_cons_of_mem _ hu)]
    have ne : ¬ t.2 = t.1 := fun e => lt_ne ht.2.2 e.symm
    unfold updF
    rw [if_neg ne]
    omega
/-- debts stay just if the plan is one number -/
theorem lent_iff {ks : List Str} {ts : List (Str × Str)} {am pl : Str → Int} {mn : Int} (ok : WebOk ks ts) (hm : mn ∈ ks.map pl) : (ks.all fun k => decide (lentF ts am pl k = am k)) = ks.all fun k => decide (pl k - mn = 0) := by
  by_cases c : ∀ k ∈ ks, lentF ts am pl k = am k
  · have e1 : (ks.all fun k => decide (lentF ts am pl k = am k)) = true := List.all_eq_true.mpr fun k hk => decide_eq_true (c k hk)
    obtain ⟨v, hv⟩ := lent_const ok c
    obtain ⟨k1, hk1, e⟩ := List.mem_map.mp hm
    have e2 : (ks.all fun k => decide (pl k - mn = 0)) = true := List.all_eq_true.mpr fun k hk => decide_eq_true (by rw [← e, hv k hk, hv k1 hk1]; omega)
    rw [e1, e2]
  · have e1 : (ks.all fun k => decide (lentF ts am pl k = am k)) = false := by
      cases z : (ks.all fun k => decide (lentF ts am pl k = am k)) with
      | false => rfl
      | true => exact absurd (fun k hk => of_decide_eq_true (List.all_eq_true.mp z k hk)) c
    rw [e1]
    cases z : (ks.all fun k => decide (pl k - mn = 0)) with
    | false => rfl
    | true =>
      refine absurd (fun k hk => lent_same (c := mn) ok.ends hk fun o ho => ?_) c
      have y := of_decide_eq_true (List.all_eq_true.mp z o ho)
      omega
end OwW

/-! tuple(d.items()): its items are not followed. -/
namespace OwV
open PySem PySem.Spec PyProof.Rows L2 PySem.W
section
variable {prog : Program} {w : World} {A : Around} {E : Value → Shared → Prop} {s : Shared} {K : Type} [DecidableEq K] {knd : KeyKind prog w K} {r d ep : Nat} {kvs : List (K × Value)}
theorem tuple_items {Q : Value → Shared → Prop} (hh : A.handled = none) (hv : s.heap.IsItemsView r d) (hm : s.heap.DictAt knd d kvs ep) (hn : kvs.length ≤ sizeLine)
    (hQ : ∀ (h' : Heap) (tk : Nat) (as : List Addr), (∀ b o, s.heap.get? b = some o → h'.get? b = some o) → as.length = kvs.length → Q (.ref h'.objs.size) { s with heap := h'.push { cls := .type "tuple", data := .seq (as.map Value.ref).toArray }, toks := tk }) :
    wpAny (model prog w) A (call (.type "tuple") [.ref r]) Q E s := by
  refine callType_codes (Q₁ := fun obj s1 => s1.TypeIs obj "tuple" ∧ Q obj s1) PySem.F.called_tuple (PySem.F.typeCall_tuple_1 _) PySem.F.entry_object_init ?_ fun obj s1 hq => ⟨hq.1, PySem.F.args_object_init_2 obj _, object_init_meets PySem.F.called_tuple.init.lookup PySem.F.called_tuple.made (by decide) prog w A.in1 _ s1 ⟨hq.1, rfl, hq.2⟩⟩
  refine codeAny_of_tree (wpAny_bind (wpAny_of_eq (PySem.F.newCall_tuple_1 _) (wpAny_pure ⟨plainId_quiet PySem.F.plain_tuple_new _, codeAny_builtin PySem.F.entry_tuple_new ?_⟩)))
  rw [Around.under_plainId PySem.F.plain_tuple_new _]
  have hT : s.TypeIs (.ref r) "dict_items" := hv.typeIs
  obtain ⟨hp, g, dr, tk, os⟩ := s
  have hsub := sub_tuple_self; have hinit := init_tuple_lookup; have hmh := madeHere_tuple
  have hh2 : A.in1.in1.handled = none := by simp [hh]
  have nt : ("dict_items" == "tuple") = false := by decide
  wp_walk using wpAny_typeOf hT, kdx_collect (knd := knd) (A := A.in1.in1) hh2 hv hm hn
  intro h' t2 as k hl _
  show wpAny _ _ (Builtin.Tuple.tupleExact (as.map Value.ref).toArray >>= fun v => ret v) _ _ _
  unfold Builtin.Tuple.tupleExact
  refine wpAny_bind (wpAny_newObj_type ?_ (by show (as.map Value.ref).toArray.size ≤ sizeLine; rw [List.size_toArray, List.length_map, hl]; exact hn))
  exact wpAny_pure ⟨⟨_, Heap.get?_push_size _ rfl, rfl⟩, hQ h' t2 as k hl⟩
end
section
variable {X : Cx} {e : Expr} {te : TE} {p apos cpos pos : Pos}
def tTupIt (te : TE) : TE := fun σ H Q => te σ H fun x H1 => ∃ (d : Addr) (kvs : List (Key × V)), x = .ref d ∧ H1 d = some (.dK kvs) ∧ ∀ (q : Addr) (as : List Addr), as.length = kvs.length → H1 q = none → Q (.ref q) (upd H1 q (.tup (as.map V.ref)))
theorem pe_tupItems (hc : X.calm = true) (he : PE X e te) (hg : Gl X "tuple") (hm : X.mg "tuple" = none) (hv : bootBuiltins "tuple" = some (.type "tuple")) (hbase : attributeBase e "items" X.env (eval e X.env) = eval e X.env := by rfl) (hline : (apos.endLine == cpos.line) = true := by rfl)
    (hs : starEach [.Call (.Attribute e "items" apos) [] [] cpos] X.env = (false, eval (.Call (.Attribute e "items" apos) [] [] cpos) X.env) :: starEach [] X.env := by rfl) : PE X (.Call (.Name "tuple" p) [.Call (.Attribute e "items" apos) [] [] cpos] [] pos) (tTupIt te) := by
  refine ⟨fun pins s σ H Q I hq => wpAny_Call_Name_kw (ld_blt I hg hm hv (PyProof.Rows.callWith_type1 ?_ hs rfl))⟩
  rw [hs]
  show wpAny _ _ (spliced ((false, eval (.Call (.Attribute e "items" apos) [] [] cpos) X.env) :: backTo pos (starEach [] X.env))) _ _ s
  refine Calls.spliced_cons (wpAny_Call_method (T := "dict") (id := "dict.items") hbase rfl hline PySem.F.plainAttrs_dict PySem.F.slot_dict_items PySem.F.type_dict_items (thn (he.run pins s σ H _ I hq) fun u s1 ⟨x, H1, I1, rx, d, kvs, ex, hd, q⟩ => ?_))
  subst ex
  obtain rfl : u = Value.ref d := rx
  obtain ⟨hz, hs0, vs, kv, hdo⟩ := I1.hok d _ hd
  obtain ⟨ep, hat⟩ := hdo.dictAt
  have lk : kvs.length = vs.length := Paired.length kv
  have I2 : Inv X pins σ H1 { s1 with heap := s1.heap.push { cls := .type "dict_items", data := .fields #[.ref d] } } := I1.kept (t' := s1.toks) fun b ob q => Heap.get?_push_of_some _ q
  refine ⟨hdo.typeIs, hdo.mapOf.noDict, ?_⟩
  show wpAny _ _ (callWith cpos (.builtin "dict.items") [.ref d] [] []) _ X.xe s1
  refine method_meetsIn PySem.F.slot_dict_items PySem.F.entry_dict_items rfl (PySem.evalArgs_none ⟨rfl, hdo.typeIs, PySem.F.args_dict_items_1 _, _, meets_dict_items (mixKind X.prog X.w) d hs0, ⟨vs, hdo⟩, Calls.spliced_nil ?_⟩)
  refine tuple_items (knd := mixKind X.prog X.w) (kvs := vs) (ep := ep) (I1.ok.hd hc) ⟨_, Heap.get?_push_size _ rfl, rfl, rfl⟩ (hat.push _) (by omega) fun h' tk as k hl => ?_
  have zl : (as.map V.ref).length ≤ sizeLine := by rw [List.length_map]; omega
  have I3 : Inv X pins σ H1 { s1 with heap := h', toks := tk } := I2.kept (t' := tk) k
  exact ⟨.ref _, _, I3.laid (o := .tup (as.map V.ref)) (t' := tk) (fun b o e => Heap.get?_push_of_some _ e) (Nat.le_refl _) ⟨zl, as.map Value.ref, LiI.vals_refs as, IsTup.new _ _⟩, rfl, q _ as (by omega) (I3.hok.fresh (Nat.le_refl _))⟩
end
end OwV

namespace OwW
open PySem PyProof.Rows L2 L2H OwX Rd Evl
theorem ty_ex {K : PySem.W.Frag} {H H' : Hp} (e : Ex H H') {v : V} {t : Value} (h : TyX K H v t) : TyX K H' v t := by
  cases h with
  | base h =>
    refine .base ?_
    cases h with
    | non => exact .non
    | bl x => exact .bl x
    | int i => exact .int i
    | str x => exact .str x
    | flt x => exact .flt x
    | lst h => exact .lst (e _ _ h)
    | frz h => exact .frz (e _ _ h)
    | tup h => exact .tup (e _ _ h)
    | dK h => exact .dK (e _ _ h)
    | dT h => exact .dT (e _ _ h)
    | ins h a b c d f => exact .ins (e _ _ h) a b c d f
  | byt b => exact .byt b
  | set h => exact .set (e _ _ h)
  | kList a b => exact .kList a b
  | kTuple a b => exact .kTuple a b
  | kDict a b => exact .kDict a b
  | fTuple h => exact .fTuple (e _ _ h)
  | fDict h => exact .fDict (e _ _ h)
/-- a value that is no numbers for just these places -/
def Bad (K : PySem.W.Frag) (ks : List Str) (H : Hp) (v : V) : Prop :=
  (∃ t : Value, TyX K H v t ∧ PySem.W.kitOne K t (.type "dict") = some false) ∨
  ∃ (a : Addr) (kvs : List (Key × V)) (ds : List PyData), v = .ref a ∧ H a = some (.dK kvs) ∧ kvs.length ≤ 1000 ∧ DhAll (wo a H) (kvs.map (·.2)) ds ∧ (justB ks kvs && ds.all integerD) = false
theorem Bad.ex {K : PySem.W.Frag} {ks : List Str} {H H' : Hp} {v : V} (b : Bad K ks H v) (e : Ex H H') : Bad K ks H' v := by
  rcases b with ⟨t, h, k⟩ | ⟨a, kvs, ds, rfl, h, hl, hd, hb⟩
  · exact .inl ⟨t, ty_ex e h, k⟩
  · exact .inr ⟨a, kvs, ds, rfl, e _ _ h, hl, hd.mv (wo_ex e), hb⟩
theorem Bad.num {K : PySem.W.Frag} {C wb : Addr} {ks : List Str} {ys : TL} {H : Hp} {v : V} {Q : VK} {E : XK} (b : Bad K ks H v) (hw : IsWeb C H wb ks ys) (q : ∀ H', Ex H H' → Q (.bl false) H') : spNumbers K C [.ref wb, v] H Q E := by
  refine ⟨wb, v, ks, ys, rfl, hw, ?_⟩
  rcases b with ⟨t, h, k⟩ | ⟨a, kvs, ds, rfl, h, hl, hd, hb⟩
  · exact .inl ⟨t, h, k, q⟩
  · refine .inr ⟨a, kvs, ds, rfl, h, hl, hd, ?_⟩
    rw [hb]
    exact q
theorem Nums.num {K : PySem.W.Frag} {C wb m : Addr} {ks : List Str} {ys : TL} {f : Str → Int} {H : Hp} {Q : VK} {E : XK} (n : Nums H m ks f) (hw : IsWeb C H wb ks ys) (q : ∀ H', Ex H H' → Q (.bl true) H') : spNumbers K C [.ref wb, .ref m] H Q E := by
  obtain ⟨kvs, h, hl, hj, _, hn⟩ := n
  obtain ⟨ds, hd, hi⟩ := nums_data (H := wo m H) hn
  refine ⟨wb, .ref m, ks, ys, rfl, hw, .inr ⟨m, kvs, ds, rfl, h, hl, hd, ?_⟩⟩
  rw [hj, hi]
  exact q
theorem merge_keys : ∀ (kvs done : List (Key × V)), (∀ p ∈ kvs, ∀ q ∈ done, q.1 ≠ p.1) → (kvs.map (·.1)).Nodup → kvs.foldl (fun acc kv => putK acc kv.1 kv.2) done = done ++ kvs
  | [], done, _, _ => (List.append_nil done).symm
  | p :: kvs, done, hk, nd => by
    rw [List.map_cons, List.nodup_cons] at nd
    have z : putK done p.1 p.2 = done ++ [p] := by
      unfold putK
      rw [if_neg]
      intro h
      obtain ⟨q, hq, e⟩ := List.any_eq_true.mp h
      exact hk p List.mem_cons_self q hq (of_decide_eq_true e)
    rw [List.foldl_cons, z, merge_keys kvs (done ++ [p]) (fun r hr q hq => ?_) nd.2, List.append_assoc]
    · rfl
    · rcases List.mem_append.mp hq with h | h
      · exact hk r (List.mem_cons_of_mem _ hr) q h
      · rw [List.mem_singleton.mp h]
        exact fun e => nd.1 (e ▸ List.mem_map.mpr ⟨r, hr, rfl⟩)
theorem merge_nil {kvs : List (Key × V)} (nd : (kvs.map (·.1)).Nodup) : mergeK [] kvs = kvs := merge_keys kvs [] (fun _ _ _ h => nomatch h) nd
theorem keys_amK (ls : List Str) (f : Str → Int) : (amK ls f).map (·.1) = ls.map fun k => (Sum.inr k : Key) := by
  unfold amK
  rw [List.map_map]
  rfl
theorem keys_nodup {ls : List Str} (nd : ls.Nodup) : (ls.map fun k => (Sum.inr k : Key)).Nodup := by
  refine List.Pairwise.map _ (fun a b h e => h (Sum.inr.inj e)) nd
theorem keys_more {ls : List Str} {f : Str → Int} {k : Str} {v : V} (nd : ls.Nodup) (hk : ¬ k ∈ ls) : ((amK ls f ++ [((Sum.inr k : Key), v)]).map (·.1)).Nodup := by
  rw [List.map_append, keys_amK, List.map_cons, List.map_nil, show [(Sum.inr k : Key)] = [k].map fun k => (Sum.inr k : Key) from rfl, ← List.map_append]
  refine keys_nodup (List.nodup_append.mpr ⟨nd, by simp, fun a ha b hb e => ?_⟩)
  rw [List.mem_singleton.mp hb] at e
  exact hk (e ▸ ha)
theorem dh_amK {H : Hp} (f : Str → Int) : ∀ ls : List Str, DhAll H ((amK ls f).map (·.2)) (ls.map fun k => .int (f k))
  | [] => .nil
  | k :: ls => .cons (.int _) (dh_amK f ls)
theorem dh_cat {H : Hp} : ∀ {xs ys : List V} {ds es : List PyData}, DhAll H xs ds → DhAll H ys es → DhAll H (xs ++ ys) (ds ++ es)
  | _, _, _, _, .nil, b => b
  | _, _, _, _, .cons a r, b => .cons a (dh_cat r b)
theorem bad_len {K : PySem.W.Frag} {ks : List Str} {H : Hp} {a : Addr} {kvs : List (Key × V)} {ds : List PyData} (h : H a = some (.dK kvs)) (hl : kvs.length ≤ 1000) (hd : DhAll (wo a H) (kvs.map (·.2)) ds) (hne : kvs.length ≠ ks.length) : Bad K ks H (.ref a) := by
  refine .inr ⟨a, kvs, ds, rfl, h, hl, hd, ?_⟩
  unfold justB
  rw [decide_eq_false hne]
  rfl
theorem bad_val {K : PySem.W.Frag} {ks ls : List Str} {H : Hp} {a : Addr} {f : Str → Int} {k : Str} {v : V} {d : PyData} (h : H a = some (.dK (amK ls f ++ [((Sum.inr k : Key), v)]))) (hl : ls.length ≤ 900) (hd : Dh (wo a H) v d) (hi : integerD d = false) : Bad K ks H (.ref a) := by
  refine .inr ⟨a, _, _, rfl, h, ?_, by rw [List.map_append]; exact dh_cat (dh_amK f ls) (.cons hd .nil), ?_⟩
  · rw [List.length_append]
    unfold amK
    rw [List.length_map]
    show _ + 1 ≤ _
    omega
  · rw [List.all_append]
    show (_ && (_ && (integerD d && true))) = false
    rw [hi]
    simp
theorem amK_drop (ks : List Str) (f : Str → Int) : (amK ks f).drop 1 = amK (ks.drop 1) f := by
  unfold amK
  rw [List.map_drop]
theorem paired_drop {α β : Type} {F : α → β → Prop} {l : List α} {m : List β} (h : Paired F l m) : Paired F (l.drop 1) (m.drop 1) := by
  cases h with
  | nil => exact .nil
  | cons _ r => exact r
theorem paired_mv {α β : Type} {F G : α → β → Prop} {l : List α} {m : List β} (h : Paired F l m) (e : ∀ a b, F a b → G a b) : Paired G l m := by
  induction h with
  | nil => exact .nil
  | cons a _ ih => exact .cons (e _ _ a) ih
theorem wo_upd (p : Addr) (H : Hp) (o : HO) : wo p (upd H p o) = wo p H := by
  funext b
  unfold wo
  by_cases e : b = p
  · rw [if_pos e, if_pos e]
  · rw [if_neg e, if_neg e, upd_ne e]
theorem ex_wo {H : Hp} {p : Addr} (h : H p = none) : Ex H (wo p H) := fun b o hb => wo_of hb fun e => by
  rw [e, h] at hb
  exact nomatch hb
theorem wo_new {X Y : Hp} {v : Addr} (e : Ex X Y) (n : X v = none) : Ex X (wo v Y) := fun b o hb => wo_of (e _ _ hb) fun h => by
  rw [h, n] at hb
  exact nomatch hb
theorem wo_none {X : Hp} {p v : Addr} (n : X v = none) : wo p X v = none := by
  unfold wo
  by_cases e : v = p
  · rw [if_pos e]
  · rw [if_neg e]
    exact n
theorem head_not {ks : List Str} (nd : ks.Nodup) (h : 2 ≤ ks.length) : ∃ k0, ks[0]? = some k0 ∧ ¬ k0 ∈ ks.drop 1 := by
  cases ks with
  | nil => exact absurd h (by decide)
  | cons k0 r => exact ⟨k0, rfl, (List.nodup_cons.mp nd).1⟩
/-- [v for v in xs if a false test]: where lc_it stands -/
theorem lc_nothing {tt : TT} {te : TE} {s : Nat} {vs : List Nat} {σ : L2.St} {H1 : Hp} {D : Addr} {Qd : Hp → Prop} {J : It} {xs : List V} {G : Hp → Prop} (wk : Walk J xs.length G (YAt xs)) (hG : ∀ H', Ex H1 H' → G H') (hD : H1 D = none)
    (hset : ∀ v, wipe ((wipe σ vs).set s (some v)) vs = wipe σ vs)
    (hs : ∀ v ∈ xs, ∀ Ha, Ex H1 Ha → ∀ R : Bool → Hp → Prop, (∀ Hb, Ex Ha Hb → R false Hb) → tt ((wipe σ vs).set s (some v)) Ha R)
    (hd : ∀ H', Ex H1 H' → H' D = some (.lst []) → Qd H') :
    ∃ W : Nat → Nat → Hp → Prop, (∃ m, W 0 m (upd H1 D (.lst []))) ∧ ∀ i m H, W i m H → (J.stop i H ∧ Qd H) ∨ (J.go i H ∧ ∃ Nx : Hp → Prop, (∀ H', Nx H' → ∃ m', m' < m ∧ W (i + 1) m' H') ∧
      ∀ x H', J.yld i H x H' → gName s x (wipe σ vs) H' fun σ2 H2 => wipe σ2 vs = wipe σ vs ∧ tt σ2 H2 fun b H3 => if b = true then te σ2 H3 fun y H4 => ∃ acc, H4 D = some (.lst acc) ∧ acc.length < sizeLine ∧ Nx (upd H4 D (.lst (acc ++ [y]))) else Nx H3) := by
  refine lc_it wk (fun _ H' => Ex H1 H' ∧ H' D = some (.lst [])) ⟨Ex.new hD, upd_same⟩ (fun i H' _ hP => hG H' hP.1) (fun i z Ha Hb hi hP hY => ?_) (fun H' hP => hd H' hP.1 hP.2)
  obtain ⟨e1, hd1⟩ := hP
  obtain ⟨rfl, hz⟩ := hY
  show _ ∧ _
  refine ⟨hset _, hs z (List.mem_of_getElem? hz) _ e1 _ fun Hb eb => ?_⟩
  rw [if_neg Bool.false_ne_true]
  exact ⟨e1.trans eb, eb _ _ hd1⟩
end OwW


namespace OwW
open PySem PyProof.Rows L2 L2H OwX Rd Evl
abbrev sLPlans : Stmt := top 67
abbrev NPr : List Str := ["_law_dice_here", "_law_plain_here", "_law_debts_here", "_law_web_here", "_law_made_here", "_law_one", "_law_two", "_law_shift", "_law_first", "_law_turned_keys", "_law_both", "_law_due", "_law_behind_both", "_law_wide", "_law_odd", "_law_worth", "_law_place", "_law_value"]
/-- more callees -/
structure Cp (P : Program) (w : World) (K : PySem.W.Frag) (mg : Str → Option Value) (base : Heap) (CW CD : Addr) where
  web : Cl P w K mg base 8 "_law_made" ["_law_plain_here"] (spMade CW)
  plan : Cl P w K mg base 3 "_law_plan_drawn" ["_law_dice_here", "_law_plain_here"] spLPlan
  after : Cl P w K mg base 1 "_law_after" ["_law_plain_here", "_law_debts_here", "_law_plan"] spLAfter
  joined : ClR P w K mg base 6 "joined_plans" (spJoin CW)
  plain : Cl P w K mg base 6 "plain_plan" ["web", "plan"] (spPPlan CW)
  plof : Cl P w K mg base 1 "_law_plain_of" ["_law_plan"] spLPlOf
  nul : Cl P w K mg base 1 "_law_none" ["_law_plain_here"] spLNone
  isp : Cl P w K mg base 4 "is_plan" ["web", "value"] (spNumbers K CW)
  mA : Mt P w K mg base 8 CD "after" ["self", "plan"] (spAfter CW CD)
  tot : Pt P w K mg base 1 CD "total" (spDTot CW CD)
  dict : mg "dict" = none
  list : mg "list" = none
  repr : mg "repr" = none
  ty : InsTy K CD
  nd : PySem.W.kitOne K (.ref CD) (.type "dict") = some false
/-- the second check of the law -/
def spLPlans : Sp := fun vs H Q _ => ∃ (a d m : Addr) (ks : List Str) (zs : TL) (f : Str → Int), vs = [.ref a, .ref d, .ref m] ∧ HasDice H a ∧ PlainAt (wo a H) d ks zs ∧ WebOk ks (zs.map (·.2)) ∧ ¬ ("qq" : Str) ∈ ks ∧ wo a H m = some (.dK (amK ks f)) ∧ (∀ k ∈ ks, (f k).natAbs ≤ 1000) ∧ ∀ H', DX a H H' → Q (.bl true) H'
theorem paired_rev {α β : Type} {F : α → β → Prop} {l : List α} {m : List β} (h : Paired F l m) : Paired F l.reverse m.reverse := by
  induction h with
  | nil => exact .nil
  | cons a _ ih =>
    rw [List.reverse_cons, List.reverse_cons]
    exact ih.snoc a
theorem nums_perm {H : Hp} {m : Addr} {ks ls : List Str} {f : Str → Int} (h : H m = some (.dK (amK ls f))) (pm : ls.Perm ks) (k9 : ks.length ≤ 9) (hf : ∀ k ∈ ks, (f k).natAbs < 10 ^ 60) : Nums H m ks f := by
  have ll := pm.length_eq
  refine ⟨amK ls f, h, by unfold amK; rw [List.length_map]; omega, ?_, fun k hk => amK_some (pm.mem_iff.mpr hk), fun p hp => ?_⟩
  · unfold justB
    rw [Bool.and_eq_true]
    refine ⟨decide_eq_true (by unfold amK; rw [List.length_map]; exact ll), ?_⟩
    rw [List.all_eq_true]
    intro k hk
    rw [amK_some (pm.mem_iff.mpr hk)]
    rfl
  · obtain ⟨k, hk, rfl⟩ := List.mem_map.mp hp
    exact ⟨f k, rfl, hf k (pm.mem_iff.mp hk)⟩
theorem amK_rev (ks : List Str) (f : Str → Int) : (amK ks f).reverse = amK ks.reverse f := by
  unfold amK
  rw [List.map_reverse]
theorem all_same {ks : List Str} {g h : Str → Int} (e : ∀ k ∈ ks, g k = h k) : (ks.all fun k => decide (g k = h k)) = true := List.all_eq_true.mpr fun k hk => decide_eq_true (e k hk)
theorem lent_shift (ts : List (Str × Str)) (am p : Str → Int) (c : Int) (k : Str) : lentF ts am (fun o => p o + c) k = lentF ts am p k := by
  rw [lent_gap, lent_gap]
  have e : (endsL ts k).map (fun o => p o + c - (p k + c)) = (endsL ts k).map (fun o => p o - p k) := List.map_congr_left fun o _ => by omega
  rw [e]
theorem lent_comm (ts : List (Str × Str)) (am p q : Str → Int) (k : Str) : lentF ts (lentF ts am p) q k = lentF ts (lentF ts am q) p k := by
  rw [lent_twice, lent_twice, lentF_congr (pl' := fun o => q o + p o) fun o => Int.add_comm _ _]
theorem min_uniq {ns : List Int} {a b : Int} (ha : a ∈ ns) (hb : b ∈ ns) (la : ∀ y ∈ ns, a ≤ y) (lb : ∀ y ∈ ns, b ≤ y) : a = b := by
  have := la b hb
  have := lb a ha
  omega
section
variable {P : Program} {w : World} {K : PySem.W.Frag} {mg : Str → Option Value} {base : Heap}
theorem scLPlans : FnScope NPr ["_law_dice_here", "_law_plain_here", "_law_debts_here"] (defScope sLPlans) := ⟨rfl, rfl, rfl, by decide +kernel, rfl, by decide +kernel, by decide +kernel⟩
theorem ok_lplans {f CW CD : Addr} {fd : FuncData} (F : Fun K "_law_plans_right" "_law_plans_right" sLPlans f fd) (c : Cs P w K mg base CW CD) (c' : Cp P w K mg base CW CD) : GFn P w K mg base (L2.CX P w) 10 f fd ["_law_dice_here", "_law_plain_here", "_law_debts_here"] spLPlans := by
  have nd := scLPlans.nd
  have DK := c.dk
  have OE := c.oe
  refine gfn_of F scLPlans (fun vs H Q E h => ?_) (fun cdv A outer s H vs Q E hr hg h => ⟨_, (pss_cons (ps_asg (pe_tup (pa_cons (pe_call c'.web.ok (hr.mono (by decide)) (by rfl) c'.web.gl c'.web.kp c'.web.bd .nil pass0 (pa_cons (pv 1) pa_nil)) (pa_cons (pe_call c.made.ok (hr.mono (by decide)) (by rfl) c.made.gl c.made.kp c.made.bd .nil pass0 (pa_cons (pv 1) (pa_cons (pv 2) pa_nil))) pa_nil))) (pg_tup rfl (pgs_cons (pg_name (i := 3) nd rfl (Or.inr rfl)) (pgs_cons (pg_name (i := 4) nd rfl (Or.inl rfl)) pgs_nil))))
    (pss_cons (ps_asg (pe_tup (pa_cons (pe_call c'.plan.ok (hr.mono (by decide)) (by rfl) c'.plan.gl c'.plan.kp c'.plan.bd .nil pass0 (pa_cons (pv 0) (pa_cons (pv 1) pa_nil))) (pa_cons (pe_call c'.plan.ok (hr.mono (by decide)) (by rfl) c'.plan.gl c'.plan.kp c'.plan.bd .nil pass0 (pa_cons (pv 0) (pa_cons (pv 1) pa_nil))) (pa_cons (pe_call c.num.ok (hr.mono (by decide)) (by rfl) c.num.gl c.num.kp c.num.bd .nil pass0 (pa_cons (pv 0) pa_nil)) pa_nil)))) (pg_tup rfl (pgs_cons (pg_name (i := 5) nd rfl (Or.inr rfl)) (pgs_cons (pg_name (i := 6) nd rfl (Or.inr rfl)) (pgs_cons (pg_name (i := 7) nd rfl (Or.inr rfl)) pgs_nil)))))
    (pss_cons (ps_set (i := 8) nd rfl (Or.inl rfl) (pe_call c'.after.ok (hr.mono (by decide)) (by rfl) c'.after.gl c'.after.kp c'.after.bd .nil pass0 (pa_cons (pv 1) (pa_cons (pv 2) (pa_cons (pv 5) pa_nil)))))
    (pss_cons (ps_set (i := 9) nd rfl (Or.inl rfl) (pe_callTy (call_dictP rfl) (by rfl) c'.dict (by decide +kernel) (pa_cons (pe_revL (LiI.pe_listItems rfl (pv 5) (by rfl) c'.list (by decide +kernel))) pa_nil)))
    (pss_cons (ps_if ((pw_or (pt_not (pt_val (pe_callG c.isd.ok (hr.mono (by decide)) hg (by rfl) c.isd.gl c.isd.kp c.isd.bd (fun _ => never_at) (pa_cons (pe_meth (pv 4) DK.cls c'.mA.me c'.mA.ok (hr.mono (by decide)) c'.mA.bd .nil pass0 (pa_cons (pv 5) pa_nil)) (pa_cons (pv 1) (pa_cons (pv 8) pa_nil)))) (fun _ => rfl))) (pw_or1 (pt_cmpR (op_neOwn c.eq.ok OE c.eq.bd (hr.mono (by decide))) (pe_meth (pv 4) DK.cls c'.mA.me c'.mA.ok (hr.mono (by decide)) c'.mA.bd .nil pass0 (pa_cons (pv 9) pa_nil)) (pe_meth (pv 4) DK.cls c'.mA.me c'.mA.ok (hr.mono (by decide)) c'.mA.bd .nil pass0 (pa_cons (pv 5) pa_nil)) (nomark _))))).pt (pss_one (ps_ret pe_bl)) pss_nil)
    (pss_cons (ps_set (i := 10) nd rfl (Or.inl rfl) (pe_callRn c'.joined.ok (hr.mono (by decide)) (by rfl) c'.joined.gl c'.joined.kp (pa_cons (pv 3) (pa_cons (pv 5) (pa_cons (pv 6) pa_nil)))))
    (pss_cons (ps_set (i := 11) nd rfl (Or.inl rfl) (pe_callTy (call_dictP rfl) (by rfl) c'.dict (by decide +kernel) (pa_cons (pe_lc (own := [("_law_place", 16)]) (g := gName 16) (tt := tYes) rfl nd (pi_list (pe_dget (units1 hr) (pv 1) pe_str (fun _ _ => rfl))) (blkOk_by (own := [("_law_place", 16)]) (N := NPr) (sc := defScope sLPlans) (by decide +kernel)) (fun _ _ _ _ _ => (pg_name (i := 16) nd rfl (Or.inl rfl))) (fun _ _ _ _ _ => pts_nil) (fun _ _ _ _ _ => (pe_tup (pa_cons (pv 16) (pa_cons (pe_op op_add (pe_dget (units1 hr) (pv 5) (pv 16) (fun _ _ => rfl)) (pe_dget (units1 hr) (pv 6) (pv 16) (fun _ _ => rfl))) pa_nil))))) pa_nil)))
    (pss_cons (ps_set (i := 12) nd rfl (Or.inl rfl) (pe_meth (pe_meth (pv 4) DK.cls c'.mA.me c'.mA.ok (hr.mono (by decide)) c'.mA.bd .nil pass0 (pa_cons (pv 5) pa_nil)) DK.cls c'.mA.me c'.mA.ok (hr.mono (by decide)) c'.mA.bd .nil pass0 (pa_cons (pv 6) pa_nil)))
    (pss_cons (ps_if ((pw_or (pt_cmpR op_ne (pe_callB (call_reprD hg (u40 hr)) (by rfl) c'.repr (by decide +kernel) (pa_cons (pv 10) pa_nil)) (pe_callB (call_reprD hg (u40 hr)) (by rfl) c'.repr (by decide +kernel) (pa_cons (pv 11) pa_nil)) (nomark _)) (pw_or (pt_cmpR (op_neOwn c.eq.ok OE c.eq.bd (hr.mono (by decide))) (pe_meth (pv 4) DK.cls c'.mA.me c'.mA.ok (hr.mono (by decide)) c'.mA.bd .nil pass0 (pa_cons (pv 10) pa_nil)) (pv 12) (nomark _)) (pw_or1 (pt_cmpR (op_neOwn c.eq.ok OE c.eq.bd (hr.mono (by decide))) (pe_meth (pe_meth (pv 4) DK.cls c'.mA.me c'.mA.ok (hr.mono (by decide)) c'.mA.bd .nil pass0 (pa_cons (pv 6) pa_nil)) DK.cls c'.mA.me c'.mA.ok (hr.mono (by decide)) c'.mA.bd .nil pass0 (pa_cons (pv 5) pa_nil)) (pv 12) (nomark _)))))).pt (pss_one (ps_ret pe_bl)) pss_nil)
    (pss_cons (ps_set (i := 13) nd rfl (Or.inl rfl) (pe_callTy (call_dictP rfl) (by rfl) c'.dict (by decide +kernel) (pa_cons (pe_lock (pe_lc (own := [("_law_place", 16)]) (g := gName 16) (tt := tYes) rfl nd (pi_keys (pv 5)) (blkOk_by (own := [("_law_place", 16)]) (N := NPr) (sc := defScope sLPlans) (by decide +kernel)) (fun _ _ _ _ _ => (pg_name (i := 16) nd rfl (Or.inl rfl))) (fun _ _ _ _ _ => pts_nil) (fun _ _ _ _ _ => (pe_tup (pa_cons (pv 16) (pa_cons (pe_op op_add (pe_dget (units1 hr) (pv 5) (pv 16) (fun _ _ => rfl)) (pv 7)) pa_nil)))))) pa_nil)))
    (pss_cons (ps_if ((pw_or (pt_cmpR op_ne (pe_callB (call_reprD hg (u40 hr)) (by rfl) c'.repr (by decide +kernel) (pa_cons (pe_call c'.plain.ok (hr.mono (by decide)) (by rfl) c'.plain.gl c'.plain.kp c'.plain.bd .nil pass0 (pa_cons (pv 3) (pa_cons (pv 13) pa_nil))) pa_nil)) (pe_callB (call_reprD hg (u40 hr)) (by rfl) c'.repr (by decide +kernel) (pa_cons (pe_call c'.plof.ok (hr.mono (by decide)) (by rfl) c'.plof.gl c'.plof.kp c'.plof.bd .nil pass0 (pa_cons (pv 5) pa_nil)) pa_nil)) (nomark _)) (pw_or1 (pt_cmpR (op_neOwn c.eq.ok OE c.eq.bd (hr.mono (by decide))) (pe_meth (pv 4) DK.cls c'.mA.me c'.mA.ok (hr.mono (by decide)) c'.mA.bd .nil pass0 (pa_cons (pv 13) pa_nil)) (pe_meth (pv 4) DK.cls c'.mA.me c'.mA.ok (hr.mono (by decide)) c'.mA.bd .nil pass0 (pa_cons (pv 5) pa_nil)) (nomark _))))).pt (pss_one (ps_ret pe_bl)) pss_nil)
    (pss_cons (ps_if (pt_cmpR op_ne (pe_callB (call_reprD hg (u40 hr)) (by rfl) c'.repr (by decide +kernel) (pa_cons (pe_callRn c'.joined.ok (hr.mono (by decide)) (by rfl) c'.joined.gl c'.joined.kp (pa_cons (pv 3) pa_nil)) pa_nil)) (pe_callB (call_reprD hg (u40 hr)) (by rfl) c'.repr (by decide +kernel) (pa_cons (pe_call c'.nul.ok (hr.mono (by decide)) (by rfl) c'.nul.gl c'.nul.kp c'.nul.bd .nil pass0 (pa_cons (pv 1) pa_nil)) pa_nil)) (nomark _)) (pss_one (ps_ret pe_bl)) pss_nil)
    (pss_cons (ps_if ((pw_or (pt_cmpR (op_neK (units1 hr)) (pe_callRn c'.joined.ok (hr.mono (by decide)) (by rfl) c'.joined.gl c'.joined.kp (pa_cons (pv 3) (pa_cons (pv 5) (pa_cons (pv 6) (pa_cons (pv 5) pa_nil))))) (pe_callRn c'.joined.ok (hr.mono (by decide)) (by rfl) c'.joined.gl c'.joined.kp (pa_cons (pv 3) (pa_cons (pv 10) (pa_cons (pv 5) pa_nil)))) (nomark _)) (pw_or1 (pt_cmpR op_ne (pe_prop (pe_meth (pv 4) DK.cls c'.mA.me c'.mA.ok (hr.mono (by decide)) c'.mA.bd .nil pass0 (pa_cons (pv 5) pa_nil)) DK.cls c'.tot.po c'.tot.ok (hr.mono (by decide)) c'.tot.bd .nil pass0 rfl) (pe_prop (pv 4) DK.cls c'.tot.po c'.tot.ok (hr.mono (by decide)) c'.tot.bd .nil pass0 rfl) (nomark _))))).pt (pss_one (ps_ret pe_bl)) pss_nil)
    (pss_cons (ps_if (pt_cmpR op_ne (pe_cmpR (op_eqOwn c.eq.ok OE c.eq.bd (hr.mono (by decide))) (pe_meth (pv 4) DK.cls c'.mA.me c'.mA.ok (hr.mono (by decide)) c'.mA.bd .nil pass0 (pa_cons (pv 5) pa_nil)) (pv 4) (nomark _)) (pe_cmpR (op_eqK (units1 hr)) (pe_call c'.plain.ok (hr.mono (by decide)) (by rfl) c'.plain.gl c'.plain.kp c'.plain.bd .nil pass0 (pa_cons (pv 3) (pa_cons (pv 5) pa_nil))) (pe_call c'.nul.ok (hr.mono (by decide)) (by rfl) c'.nul.gl c'.nul.kp c'.nul.bd .nil pass0 (pa_cons (pv 1) pa_nil)) (nomark _)) (nomark _)) (pss_one (ps_ret pe_bl)) pss_nil)
    (pss_cons (ps_set (i := 14) nd rfl (Or.inl rfl) (pe_lst (pa_cons pe_non (pa_cons pe_int (pa_cons (pe_lst pa_nil) (pa_cons (pe_tup pa_nil) (pa_cons pe_dnewK (pa_cons pe_str (pa_cons (OwV.pe_tupItems rfl (pv 5) (by rfl) c.tuple (by decide +kernel)) (pa_cons (pe_callTy (call_dictP rfl) (by rfl) c'.dict (by decide +kernel) (pa_cons (pe_slice sl_list (LiI.pe_listItems rfl (pv 5) (by rfl) c'.list (by decide +kernel)) (po_some pe_int) po_none) pa_nil)) (pa_cons (pv 4) pa_nil)))))))))))
    (pss_cons (ps_expr (pe_bm PySem.F.plainAttrs_list PySem.F.slot_list_append PySem.F.type_list_append mt_append (pv 14) (pa_cons (pe_callTy (call_dictP rfl) (by rfl) c'.dict (by decide +kernel) (pa_cons (pe_op op_cat (LiI.pe_listItems rfl (pv 5) (by rfl) c'.list (by decide +kernel)) (pe_lst (pa_cons (pe_tup (pa_cons pe_str (pa_cons pe_int pa_nil))) pa_nil))) pa_nil)) pa_nil)))
    (pss_cons (ps_for PassesOwn.leaving rfl (pi_list (pe_lst (pa_cons pe_non (pa_cons pe_bl (pa_cons pe_str (pa_cons (pe_tup (pa_cons pe_int pa_nil)) (pa_cons (pe_op op_pow pe_int pe_int) pa_nil))))))) (pg_name (i := 15) nd rfl (Or.inl rfl)) (pss_one (ps_expr (pe_bm PySem.F.plainAttrs_list PySem.F.slot_list_append PySem.F.type_list_append mt_append (pv 14) (pa_cons (pe_callTy (call_dictP rfl) (by rfl) c'.dict (by decide +kernel) (pa_cons (pe_op op_cat (pe_slice sl_list (LiI.pe_listItems rfl (pv 5) (by rfl) c'.list (by decide +kernel)) (po_some pe_int) po_none) (pe_lst (pa_cons (pe_tup (pa_cons (pe_ix ix_list (pe_dget (units1 hr) (pv 1) pe_str (fun _ _ => rfl)) pe_int (fun _ _ => rfl)) (pa_cons (pv 15) pa_nil))) pa_nil))) pa_nil)) pa_nil)))))
    (pss_cons (ps_if (pt_cmpR (op_neD hr.units) (pe_lc (own := [("_law_value", 17)]) (g := gName 17) (tt := tTest (tOp rNotB (tCall (spNumbers K CW) [] E0 (tCons (tVar 3) (tCons (tVar 17) tNil))) (tC (.bl false)))) rfl nd (pi_list (pv 14)) (blkOk_by (own := [("_law_value", 17)]) (N := NPr) (sc := defScope sLPlans) (by decide +kernel)) (fun _ _ _ _ _ => (pg_name (i := 17) nd rfl (Or.inl rfl))) (fun _ _ _ _ _ => (pts_one (pt_cmpR op_notBl (pe_call c'.isp.ok (hr.mono (by decide)) (by rfl) c'.isp.gl c'.isp.kp c'.isp.bd .nil pass0 (pa_cons (pv 3) (pa_cons (pv 17) pa_nil))) pe_bl (nomark _)))) (fun _ _ _ _ _ => (pv 17))) (pe_lst pa_nil) (nomark _)) (pss_one (ps_ret pe_bl)) pss_nil)
    (pss_one (ps_ret (pe_cmpR (op_eqD hr.units) (pe_lc (own := [("_law_value", 17)]) (g := gName 17) (tt := tTest (tOp rNotB (tCall (spNumbers K CW) [] E0 (tCons (tVar 3) (tCons (tVar 17) tNil))) (tC (.bl true)))) rfl nd (pi_tup (pe_tup (pa_cons (pv 5) (pa_cons (pv 10) (pa_cons (pv 13) (pa_cons (pv 9) pa_nil)))))) (blkOk_by (own := [("_law_value", 17)]) (N := NPr) (sc := defScope sLPlans) (by decide +kernel)) (fun _ _ _ _ _ => (pg_name (i := 17) nd rfl (Or.inl rfl))) (fun _ _ _ _ _ => (pts_one (pt_cmpR op_notBl (pe_call c'.isp.ok (hr.mono (by decide)) (by rfl) c'.isp.gl c'.isp.kp c'.isp.bd .nil pass0 (pa_cons (pv 3) (pa_cons (pv 17) pa_nil))) pe_bl (nomark _)))) (fun _ _ _ _ _ => (pv 17))) (pe_lst pa_nil) (nomark _)))))))))))))))))))))), ?_⟩)
  · obtain ⟨a, d, m, ks, zs, f, rfl, _⟩ := h
    rfl
  · obtain ⟨a, d, m, ks, zs, fn, rfl, hd, pl, ok, nqq, hm, fb, k⟩ := h
    have k9 := ok.nine
    have k2 := ok.two
    have few := ok.few
    have wH := wo_in a H
    rw [show L2.start NPr [V.ref a, V.ref d, V.ref m] = [some (.ref a), some (.ref d), some (.ref m), none, none, none, none, none, none, none, none, none, none, none, none, none, none, none] from rfl]
    walk_at "rd"
    refine ⟨d, ks, zs, rfl, pl.ex wH, ok, fun wv H1 e1 hw nwv => ?_⟩
    walk_at "rd"
    refine ⟨d, m, ks, zs, fn, rfl, (pl.ex wH).ex e1, ok, amK_numsF (e1 _ _ (wH _ _ hm)) k9 (fun o ho => by have := fb o ho; omega), fun mo wb H2 e2 db nmo => ?_⟩
    walk_at "rd"
    refine ⟨small64 (n := 2) (by decide), fun p hp => ?_⟩
    have e3 : Ex H2 (upd H2 p (.tup [.ref wv, .ref mo])) := Ex.new hp
    have p3 : (upd H2 p (.tup [.ref wv, .ref mo])) p = some (.tup [.ref wv, .ref mo]) := upd_same
    generalize upd H2 p (.tup [.ref wv, .ref mo]) = H3 at e3 p3 ⊢
    refine ⟨p, [.ref wv, .ref mo], rfl, SqT.of p3, rfl, .ref wv, [.ref mo], rfl, ?_⟩
    walk_at "rd"
    refine ⟨.ref mo, [], rfl, ?_⟩
    walk_at "rd"
    refine ⟨rfl, ?_⟩
    dsimp only [List.set_cons_succ, List.set_cons_zero]
    have x3 : DX a H H3 := DX.of ((e1.trans e2).trans e3) hd
    have hd3 := x3.at_
    have pl3 := pl.ex x3.ex
    have hm3 := x3.ex _ _ hm
    have db3 := (db.ex e3).wo' hd3
    have hw3 := (hw.ex (e2.trans e3)).wo' hd3
    clear hp p3 e3 db nmo e2 hw nwv e1 wH
    walk_at "rd"
    refine ⟨a, d, ks, zs, rfl, hd3, pl3, ok, fun p1 f1 H4 x4 b1 hp1 np1 => ?_⟩
    walk_at "rd"
    refine ⟨a, d, ks, zs, rfl, x4.at_, pl3.ex x4.ex, ok, fun p2 f2 H5 x5 b2 hp2 np2 => ?_⟩
    walk_at "rd"
    refine ⟨a, rfl, x5.at_, fun n H6 nb x6 => ?_⟩
    walk_at "rd"
    refine ⟨small64 (n := 3) (by decide), fun q hq => ?_⟩
    have e7 : Ex H6 (upd H6 q (.tup [.ref p1, .ref p2, .int n])) := Ex.new hq
    have q7 : (upd H6 q (.tup [.ref p1, .ref p2, .int n])) q = some (.tup [.ref p1, .ref p2, .int n]) := upd_same
    generalize upd H6 q (.tup [.ref p1, .ref p2, .int n]) = H7 at e7 q7 ⊢
    refine ⟨q, [.ref p1, .ref p2, .int n], rfl, SqT.of q7, rfl, .ref p1, [.ref p2, .int n], rfl, ?_⟩
    walk_at "rd"
    refine ⟨.ref p2, [.int n], rfl, ?_⟩
    walk_at "rd"
    refine ⟨.int n, [], rfl, ?_⟩
    walk_at "rd"
    refine ⟨rfl, ?_⟩
    dsimp only [List.set_cons_succ, List.set_cons_zero]
    have x37 : DX a H3 H7 := ((x4.trans x5).trans x6).then e7
    have W7 := x37.ex.trans (wo_in a H7)
    have pl7 := pl3.ex W7
    have hm7 := W7 _ _ hm3
    have db7 := db3.ex W7
    have hw7 := hw3.ex W7
    have h17 := wo_in a _ _ _ (((x5.trans x6).then e7).ex _ _ hp1)
    have h27 := wo_in a _ _ _ ((x6.then e7).ex _ _ hp2)
    have fin : ∀ H', Ex H7 H' → Q (.bl true) H' := fun H' e => k H' ((x3.trans x37).then e)
    have n12 : p1 ≠ p2 := fun e => by
      have z := wo_in a _ _ _ hp1
      rw [e, np2] at z
      exact nomatch z
    clear hq q7 e7 x6 hp2 np2 x5 hp1 np1 x4 W7 x37 hw3 db3 hm3 pl3 hd3 x3 k hm pl hd
    walk_at "rd"
    have ts := ok.ends
    have n1 : Nums H7 p1 ks f1 := amK_numsF h17 k9 fun o ho => by have := b1 o ho; omega
    have n2 : Nums H7 p2 ks f2 := amK_numsF h27 k9 fun o ho => by have := b2 o ho; omega
    obtain ⟨dx, nn, o1, o2⟩ := db7.at_
    refine ⟨d, m, p1, ks, zs, fn, f1, rfl, pl7, ok, Nums.ofAm hm7, Nums.ofAm h17, fun la H8 e8 hla nla => ?_⟩
    walk_at "rd"
    unfold tRevL LiI.tListItems LiI.rItemsL
    walk_at "rd"
    refine ⟨p1, _, rfl, e8 _ _ h17, fun H9 li as e9 nli nas nin hli hpr => ?_⟩
    refine ⟨li, _, rfl, SqL.of hli, fun rl hrl => ?_⟩
    have e10 : Ex H9 (upd H9 rl (.lst (as.map V.ref).reverse)) := Ex.new hrl
    have r10 : (upd H9 rl (.lst (as.map V.ref).reverse)) rl = some (.lst (as.reverse.map V.ref)) := by rw [upd_same, List.map_reverse]
    generalize upd H9 rl (.lst (as.map V.ref).reverse) = H10 at e10 r10 ⊢
    have e9' : Ex H8 H9 := e9
    walk_at "rd"
    refine ⟨rl, as.reverse, (amK ks f1).reverse, rfl, SqL.of r10, pairsT (paired_rev (pairsE hpr fun q t hq => e10 _ _ hq)), fun tk htk => ?_⟩
    rw [amK_rev, merge_amK ((List.reverse_perm ks).symm.nodup (asc_nodup ok.asc))]
    have e11 : Ex H10 (upd H10 tk (.dK (amK ks.reverse f1))) := Ex.new htk
    have t11 : (upd H10 tk (.dK (amK ks.reverse f1))) tk = some (.dK (amK ks.reverse f1)) := upd_same
    generalize upd H10 tk (.dK (amK ks.reverse f1)) = H11 at e11 t11 ⊢
    have E11 : Ex H7 H11 := (e8.trans e9').trans (e10.trans e11)
    have la11 := ((e9'.trans e10).trans e11) _ _ hla
    have ntk : Nums H11 tk ks f1 := nums_perm t11 (List.reverse_perm ks) k9 fun o ho => by have := b1 o ho; omega
    clear e8 e9 e9' e10 e11 hli hpr nas nin nli hrl r10 htk hla nla
    walk_at "rd"
    dsimp only [List.set_cons_succ, List.set_cons_zero]
    unfold tMeth
    walk_at "rd"
    refine ⟨mo, dx, _, rfl, E11 _ _ o1, rfl, ?_⟩
    walk_at "rd"
    refine ⟨mo, wb, p1, ks, zs, fn, f1, rfl, db7.ex E11, n1.ex E11, fun r1 H12 e12 dr1 nr1 => ?_⟩
    have E12 := E11.trans e12
    walk_at "rd"
    refine ⟨r1, wb, d, la, ks, zs, zs, _, _, rfl, dr1, pl7.ex E12, ok, rfl, Nums.ofAm (e12 _ _ la11), fun o ho => rfl, fun o ho => ?_, fun H13 e13 => ⟨_, rfl, ?_⟩⟩
    · have z := lent_bound (am := fn) (pl := f1) (A := 1000) (B := 60) ho (fb o ho) b1 _ ts
      have y : (zs.map (·.2)).length * (2 * 60) ≤ 18 * 120 := Nat.mul_le_mul few (by omega)
      omega
    have E13 := E12.trans e13
    refine Rd.iteF (by decide) ?_
    walk_at "rd"
    refine ⟨mo, dx, _, rfl, E13 _ _ o1, rfl, ?_⟩
    walk_at "rd"
    refine ⟨mo, wb, tk, ks, zs, fn, f1, rfl, db7.ex E13, ntk.ex (e12.trans e13), fun r2 H14 e14 dr2 nr2 => ?_⟩
    have E14 := E13.trans e14
    walk_at "rd"
    refine ⟨mo, dx, _, rfl, E14 _ _ o1, rfl, ?_⟩
    walk_at "rd"
    refine ⟨mo, wb, p1, ks, zs, fn, f1, rfl, db7.ex E14, n1.ex E14, fun r3 H15 e15 dr3 nr3 => ?_⟩
    have E15 := E14.trans e15
    walk_at "rd"
    obtain ⟨dx2, nn2, g2, _⟩ := (dr2.ex e15).at_
    obtain ⟨dx3, nn3, g3, _⟩ := dr3.at_
    refine ⟨r2, r3, dx2, dx3, _, _, rfl, rfl, g2, g3, r2, r3, wb, ks, zs, _, _, rfl, dr2.ex e15, dr3, _, rfl, ?_⟩
    rw [all_same fun _ _ => rfl]
    refine ⟨_, rfl, ?_⟩
    refine Rd.iteF (by decide) ?_
    have t15 := ((e12.trans e13).trans (e14.trans e15)) _ _ t11
    have ntk15 := ntk.ex ((e12.trans e13).trans (e14.trans e15))
    clear g2 g3 dr2 dr3 nr2 nr3 e14 e15 E13 E14 dr1 nr1 e12 e13 E12 la11 t11 ntk E11
    walk_at "rd"
    unfold tCallR
    walk_at "rd"
    refine ⟨wv, ks, zs, [(p1, f1), (p2, f2)], rfl, hw7.ex E15, by simp, fun x hx => ?_, fun bo H16 e16 hbo nbo => ?_⟩
    · rcases List.mem_cons.mp hx with e | e
      · rw [e]
        exact n1.ex E15
      · rw [List.mem_singleton.mp e]
        exact n2.ex E15
    have E16 := E15.trans e16
    walk_at "rd"
    refine Rd.lcm' (Rd.ilist' ?_)
    unfold tDGet
    walk_at "rd"
    obtain ⟨kp, gk, hkp⟩ := pl7.places
    refine ⟨d, _, rfl, gk H16 E16, kp, rfl, ⟨_, SqL.of (E16 _ _ hkp)⟩, fun D hD => ?_⟩
    refine lc_pairsG (f := fun k => f1 k + f2 k) (s := 16) (walk_list (xs := ks.map V.str)) (List.length_map ..) (fun H' e => SqL.of (e _ _ (E16 _ _ hkp))) (fun i Ha x Hb y g => by
      obtain ⟨rfl, hz⟩ := y
      rw [List.getElem?_map] at hz
      obtain ⟨b, hb, rfl⟩ := Option.map_eq_some_iff.mp hz
      exact ⟨rfl, b, hb, rfl⟩) hD (by omega) (fun _ => rfl) (fun _ => rfl) (fun b hb Ha ea R hR => ?_) (fun H' ps e17 hps hpr => ?_)
    · walk_at "rd"
      have g1 := DGet.k (k := Sum.inr b) (ea _ _ (E16 _ _ h17))
      rw [amK_some hb] at g1
      refine ⟨p1, _, rfl, g1, ?_⟩
      walk_at "rd"
      have g2 := DGet.k (k := Sum.inr b) (ea _ _ (E16 _ _ h27))
      rw [amK_some hb] at g2
      refine ⟨p2, _, rfl, g2, ?_⟩
      walk_at "rd"
      exact hR Ha (Ex.refl Ha)
    · refine ⟨D, ps, amK ks (fun k => f1 k + f2 k), rfl, SqL.of hps, pairsT hpr, fun du hdu => ?_⟩
      rw [merge_amK (asc_nodup ok.asc)]
      have e18 : Ex H' (upd H' du (.dK (amK ks fun k => f1 k + f2 k))) := Ex.new hdu
      have d18 : (upd H' du (.dK (amK ks fun k => f1 k + f2 k))) du = some (.dK (amK ks fun k => f1 k + f2 k)) := upd_same
      generalize upd H' du (.dK (amK ks fun k => f1 k + f2 k)) = H18 at e18 d18 ⊢
      have E18 := E16.trans (e17.trans e18)
      have b18 := (e17.trans e18) _ _ hbo
      have t18 := (e16.trans (e17.trans e18)) _ _ t15
      have ntk18 := ntk15.ex (e16.trans (e17.trans e18))
      clear hps hpr hdu e17 e18 hD hbo nbo e16 E16 E15 t15 ntk15
      dsimp only [List.set_cons_succ, List.set_cons_zero]
      have bb : ∀ k ∈ ks, sumF [(p1, f1), (p2, f2)] k = f1 k + f2 k := fun k _ => by
        unfold sumF
        simp
      have bbd : ∀ k ∈ ks, (sumF [(p1, f1), (p2, f2)] k).natAbs < 10 ^ 60 := fun k hk => by
        rw [bb k hk]
        have := b1 k hk
        have := b2 k hk
        omega
      have lb : ∀ k ∈ ks, lentF (zs.map (·.2)) fn (sumF [(p1, f1), (p2, f2)]) k = lentF (zs.map (·.2)) (lentF (zs.map (·.2)) fn f1) f2 k := fun k _ => by
        rw [lent_twice, lentF_congr (pl' := fun o => f1 o + f2 o)]
        intro o
        unfold sumF
        simp
      generalize hsb : sumF [(p1, f1), (p2, f2)] = sb at b18 bb bbd lb
      walk_at "rd"
      refine ⟨mo, dx, _, rfl, E18 _ _ o1, rfl, ?_⟩
      walk_at "rd"
      refine ⟨mo, wb, p1, ks, zs, fn, f1, rfl, db7.ex E18, n1.ex E18, fun r4 H19 e19 dr4 nr4 => ?_⟩
      have E19 := E18.trans e19
      walk_at "rd"
      obtain ⟨dx4, nn4, g4, _⟩ := dr4.at_
      refine ⟨r4, dx4, _, rfl, g4, rfl, ?_⟩
      walk_at "rd"
      refine ⟨r4, wb, p2, ks, zs, _, f2, rfl, dr4, n2.ex E19, fun hb H20 e20 dhb nhb => ?_⟩
      have E20 := E19.trans e20
      have b20 := (e19.trans e20) _ _ b18
      have d20 := (e19.trans e20) _ _ d18
      have ntk20 := ntk18.ex (e19.trans e20)
      dsimp only [List.set_cons_succ, List.set_cons_zero]
      clear g4 dr4 nr4 e19 e20 E19 E18 b18 d18 t18 ntk18 nhb
      walk_at "rd"
      refine repr_am b20 k9 ok.names bbd ?_
      walk_at "rd"
      refine repr_am d20 k9 ok.names (fun k hk => by rw [← bb k hk]; exact bbd k hk) ?_
      walk_at "rd"
      refine Rd.ne rfl ?_
      rw [kds_congr bb, decide_eq_true rfl]
      refine ⟨_, rfl, ?_⟩
      refine Rd.iteF (by decide) ?_
      walk_at "rd"
      refine ⟨mo, dx, _, rfl, E20 _ _ o1, rfl, ?_⟩
      walk_at "rd"
      refine ⟨mo, wb, bo, ks, zs, fn, sb, rfl, db7.ex E20, amK_numsF b20 k9 bbd, fun r5 H21 e21 dr5 nr5 => ?_⟩
      have E21 := E20.trans e21
      have dhb1 := dhb.ex e21
      walk_at "rd"
      obtain ⟨dx5, nn5, g5, _⟩ := dr5.at_
      obtain ⟨dxh, nnh, gh, _⟩ := dhb1.at_
      refine ⟨r5, hb, dx5, dxh, _, _, rfl, rfl, g5, gh, r5, hb, wb, ks, zs, _, _, rfl, dr5, dhb1, _, rfl, ?_⟩
      rw [all_same lb]
      refine ⟨_, rfl, ?_⟩
      refine Rd.iteF (by decide) ?_
      clear g5 dr5 nr5
      walk_at "rd"
      refine ⟨mo, dx, _, rfl, E21 _ _ o1, rfl, ?_⟩
      walk_at "rd"
      refine ⟨mo, wb, p2, ks, zs, fn, f2, rfl, db7.ex E21, n2.ex E21, fun r6 H22 e22 dr6 nr6 => ?_⟩
      have E22 := E21.trans e22
      walk_at "rd"
      obtain ⟨dx6, nn6, g6, _⟩ := dr6.at_
      refine ⟨r6, dx6, _, rfl, g6, rfl, ?_⟩
      walk_at "rd"
      refine ⟨r6, wb, p1, ks, zs, _, f1, rfl, dr6, n1.ex E22, fun r7 H23 e23 dr7 nr7 => ?_⟩
      have E23 := E22.trans e23
      have dhb2 := dhb1.ex (e22.trans e23)
      walk_at "rd"
      obtain ⟨dx7, nn7, g7, _⟩ := dr7.at_
      obtain ⟨dxi, nni, gi, _⟩ := dhb2.at_
      refine ⟨r7, hb, dx7, dxi, _, _, rfl, rfl, g7, gi, r7, hb, wb, ks, zs, _, _, rfl, dr7, dhb2, _, rfl, ?_⟩
      rw [all_same fun o _ => lent_comm (zs.map (·.2)) fn f2 f1 o]
      refine ⟨_, rfl, ?_⟩
      refine Rd.iteF (by decide) ?_
      have b23 := (e21.trans (e22.trans e23)) _ _ b20
      have ntk23 := ntk20.ex (e21.trans (e22.trans e23))
      clear g6 g7 gi gh dr6 dr7 nr6 nr7 dhb dhb1 dhb2 e21 e22 e23 E21 E22 E20 b20 ntk20 d20
      walk_at "rd"
      have h23 := E23 _ _ h17
      refine ⟨p1, .dK (amK ks f1), h23, trivial, fun od => ?_⟩
      have La : (upd H23 p1 (.frz od (.dK (amK ks f1)))) p1 = some (.frz od (.dK (amK ks f1))) := upd_same
      have eL : Ex (wo p1 H23) (upd H23 p1 (.frz od (.dK (amK ks f1)))) := fun q o hq => by
        have na : q ≠ p1 := fun e => by
          rw [e] at hq
          unfold wo at hq
          rw [if_pos rfl] at hq
          exact nomatch hq
        exact (upd_ne na).trans (wo_in p1 _ _ _ hq)
      generalize upd H23 p1 (.frz od (.dK (amK ks f1))) = L at La eL ⊢
      refine Rd.lcm' ?_
      unfold iKeys
      walk_at "rd"
      refine ⟨p1, od, rfl, Or.inl ⟨_, La, fun D2 hD2 => ?_⟩⟩
      refine lc_pairsG (f := fun k => f1 k + n) (s := 16) (walk_keys (d := p1) (o := od) (kvs := amK ks f1)) (by unfold amK; rw [List.length_map]) (fun H' e => e _ _ La) (fun i Ha x Hb y g => by
        obtain ⟨rfl, k, v, hz, rfl⟩ := y
        unfold amK at hz
        rw [List.getElem?_map] at hz
        obtain ⟨b, hb, e⟩ := Option.map_eq_some_iff.mp hz
        refine ⟨rfl, b, hb, ?_⟩
        rw [← (Prod.mk.inj e).1]
        rfl) hD2 (by omega) (fun _ => rfl) (fun _ => rfl) (fun b hb Ha ea R hR => ?_) (fun H' ps e24 hps hpr => ?_)
      · walk_at "rd"
        have g1 := dgetF (k := Sum.inr b) (ea _ _ La)
        rw [amK_some hb] at g1
        refine ⟨p1, _, rfl, g1, ?_⟩
        walk_at "rd"
        exact hR Ha (Ex.refl Ha)
      · refine ⟨e24 _ _ La, ?_⟩
        walk_at "rd"
        have Da : D2 ≠ p1 := fun e => by
          rw [e, La] at hD2
          exact nomatch hD2
        have EE : Ex H23 (upd H' p1 (.dK (amK ks f1))) := fun q o hq => by
          by_cases e : q = p1
          · rw [e] at hq ⊢
            rw [h23] at hq
            cases hq
            exact upd_same
          · exact (upd_ne e).trans (e24 _ _ (eL _ _ (wo_of hq e)))
        refine ⟨D2, ps, amK ks fun k => f1 k + n, rfl, SqL.of ((upd_ne Da).trans hps), pairsT (pairsE hpr fun q t hq => ?_), fun wd hwd => ?_⟩
        · have qa : q ≠ p1 := fun e => by
            rw [e, e24 _ _ La] at hq
            exact nomatch hq
          exact (upd_ne qa).trans hq
        · rw [merge_amK (asc_nodup ok.asc)]
          have e25 := EE.trans (Ex.new (o := .dK (amK ks fun k => f1 k + n)) hwd)
          have w25 : (upd (upd H' p1 (.dK (amK ks f1))) wd (.dK (amK ks fun k => f1 k + n))) wd = some (.dK (amK ks fun k => f1 k + n)) := upd_same
          generalize upd (upd H' p1 (.dK (amK ks f1))) wd (.dK (amK ks fun k => f1 k + n)) = H25 at e25 w25 ⊢
          have E25 := E23.trans e25
          have b25 := e25 _ _ b23
          have ntk25 := ntk23.ex e25
          dsimp only [List.set_cons_succ, List.set_cons_zero]
          clear hwd EE Da hps hpr e24 hD2 La eL e25 E23 b23 ntk23 h23
          walk_at "rd"
          dsimp only [List.set_cons_succ, List.set_cons_zero]
          refine ⟨wv, wd, ks, zs, fun k => f1 k + n, rfl, hw7.ex E25, w25, fun o ho => by have := b1 o ho; show (f1 o + n).natAbs < _; omega, fun pp H26 mn hmn hle e26 hpp npp => ?_⟩
          have E26 := E25.trans e26
          obtain ⟨j0, hj0, ej0⟩ := List.mem_map.mp hmn
          have bj0 := b1 j0 hj0
          walk_at "rd"
          refine repr_am hpp k9 ok.names (fun o ho => by have := b1 o ho; have y : mn = f1 j0 + n := ej0.symm; show (f1 o + n - mn).natAbs < _; omega) ?_
          walk_at "rd"
          refine ⟨p1, ks, f1, rfl, E26 _ _ h17, ok.asc, k2, k9, fun po H27 mn2 hmn2 hle2 e27 hpo npo => ?_⟩
          have E27 := E26.trans e27
          have mm : mn = mn2 + n := by
            obtain ⟨j2, hj2, ej2⟩ := List.mem_map.mp hmn2
            have z1 := hle (mn2 + n) (List.mem_map.mpr ⟨j2, hj2, by rw [ej2]⟩)
            have z2 := hle2 (mn - n) (List.mem_map.mpr ⟨j0, hj0, by omega⟩)
            omega
          walk_at "rd"
          refine repr_am hpo k9 ok.names (fun o ho => by have := b1 o ho; have y : mn = f1 j0 + n := ej0.symm; show (f1 o - mn2).natAbs < _; omega) ?_
          refine Rd.ne rfl ?_
          rw [kds_congr (f := fun k => f1 k + n - mn) (g := fun k => f1 k - mn2) fun o ho => by show f1 o + n - mn = f1 o - mn2; omega, decide_eq_true rfl]
          refine ⟨_, rfl, ?_⟩
          refine Rd.iteF (by decide) ?_
          have w27 := (e26.trans e27) _ _ w25
          clear hpp npp hpo npo hle hle2 hmn hmn2
          walk_at "rd"
          refine ⟨mo, dx, _, rfl, E27 _ _ o1, rfl, ?_⟩
          walk_at "rd"
          refine ⟨mo, wb, wd, ks, zs, fn, fun k => f1 k + n, rfl, db7.ex E27, amK_numsF w27 k9 (fun o ho => by have := b1 o ho; show (f1 o + n).natAbs < _; omega), fun r8 H28 e28 dr8 nr8 => ?_⟩
          have E28 := E27.trans e28
          walk_at "rd"
          refine ⟨mo, dx, _, rfl, E28 _ _ o1, rfl, ?_⟩
          walk_at "rd"
          refine ⟨mo, wb, p1, ks, zs, fn, f1, rfl, db7.ex E28, n1.ex E28, fun r9 H29 e29 dr9 nr9 => ?_⟩
          have E29 := E28.trans e29
          have dr8' := dr8.ex e29
          walk_at "rd"
          obtain ⟨dx8, nn8, g8, _⟩ := dr8'.at_
          obtain ⟨dx9, nn9, g9, _⟩ := dr9.at_
          refine ⟨r8, r9, dx8, dx9, _, _, rfl, rfl, g8, g9, r8, r9, wb, ks, zs, _, _, rfl, dr8', dr9, _, rfl, ?_⟩
          rw [all_same fun o _ => lent_shift (zs.map (·.2)) fn f1 n o]
          refine ⟨_, rfl, ?_⟩
          refine Rd.iteF (by decide) ?_
          have b29 := ((e26.trans e27).trans (e28.trans e29)) _ _ b25
          have w29 := (e28.trans e29) _ _ w27
          have ntk29 := ntk25.ex ((e26.trans e27).trans (e28.trans e29))
          clear g8 g9 dr8 dr8' dr9 nr8 nr9 e26 e27 e28 e29 E25 E26 E27 E28 w27 w25 b25 ntk25
          walk_at "rd"
          refine ⟨wv, ks, zs, [], rfl, hw7.ex E29, by simp, fun _ h => (nomatch h), fun jo H30 e30 hjo njo => ?_⟩
          have E30 := E29.trans e30
          walk_at "rd"
          refine repr_am (f := sumF []) hjo k9 ok.names (fun o ho => by show (0 : Int).natAbs < _; decide +kernel) ?_
          walk_at "rd"
          refine ⟨d, ks, zs, rfl, pl7.ex E30, ok, fun zo H31 e31 hzo nzo => ?_⟩
          have E31 := E30.trans e31
          walk_at "rd"
          refine repr_am (f := fun _ => 0) hzo k9 ok.names (fun o ho => by show (0 : Int).natAbs < _; decide +kernel) ?_
          refine Rd.ne rfl ?_
          rw [kds_congr (f := sumF []) (g := fun _ => 0) fun o ho => rfl, decide_eq_true rfl]
          refine ⟨_, rfl, ?_⟩
          refine Rd.iteF (by decide) ?_
          walk_at "rd"
          refine ⟨wv, ks, zs, [(p1, f1), (p2, f2), (p1, f1)], rfl, hw7.ex E31, by simp, fun x hx => ?_, fun j1 H32 e32 hj1 nj1 => ?_⟩
          · rcases List.mem_cons.mp hx with e | hx
            · rw [e]
              exact n1.ex E31
            · rcases List.mem_cons.mp hx with e | hx
              · rw [e]
                exact n2.ex E31
              · rw [List.mem_singleton.mp hx]
                exact n1.ex E31
          have E32 := E31.trans e32
          have b32 := (e30.trans (e31.trans e32)) _ _ b29
          walk_at "rd"
          refine ⟨wv, ks, zs, [(bo, sb), (p1, f1)], rfl, hw7.ex E32, by simp, fun x hx => ?_, fun j2 H33 e33 hj2 nj2 => ?_⟩
          · rcases List.mem_cons.mp hx with e | hx
            · rw [e]
              exact amK_numsF b32 k9 bbd
            · rw [List.mem_singleton.mp hx]
              exact n1.ex E32
          have E33 := E32.trans e33
          walk_at "rd"
          refine ⟨j1, j2, ks, _, _, rfl, rfl, e33 _ _ hj1, hj2, ?_⟩
          rw [if_pos rfl, all_same fun o ho => by
            have z := bb o ho
            unfold sumF
            simp only [List.map_cons, List.map_nil, List.sum_cons, List.sum_nil]
            omega]
          refine ⟨_, rfl, ?_⟩
          refine Rd.iteF (by decide) ?_
          have b33 := e33 _ _ b32
          have w33 := ((e30.trans e31).trans (e32.trans e33)) _ _ w29
          have ntk33 := ntk29.ex ((e30.trans e31).trans (e32.trans e33))
          clear hjo njo hzo nzo hj1 hj2 nj1 nj2 e30 e31 e32 e33 E29 E30 E31 E32 b29 b32 w29 ntk29
          walk_at "rd"
          unfold tProp
          walk_at "rd"
          refine ⟨mo, dx, _, rfl, E33 _ _ o1, rfl, ?_⟩
          walk_at "rd"
          refine ⟨mo, wb, p1, ks, zs, fn, f1, rfl, db7.ex E33, n1.ex E33, fun r10 H34 e34 dr10 nr10 => ?_⟩
          have E34 := E33.trans e34
          walk_at "rd"
          obtain ⟨dx10, nn10, g10, _⟩ := dr10.at_
          refine ⟨r10, dx10, _, rfl, g10, r10, wb, ks, zs, _, rfl, dr10, fun H35 e35 => ?_⟩
          have E35 := E34.trans e35
          walk_at "rd"
          refine ⟨mo, dx, _, rfl, E35 _ _ o1, mo, wb, ks, zs, fn, rfl, db7.ex E35, fun H36 e36 => ?_⟩
          have E36 := E35.trans e36
          refine Rd.ne rfl ?_
          rw [lent_total (asc_nodup ok.asc) _ ts, decide_eq_true rfl]
          refine ⟨_, rfl, ?_⟩
          refine Rd.iteF (by decide) ?_
          walk_at "rd"
          refine ⟨mo, dx, _, rfl, E36 _ _ o1, rfl, ?_⟩
          walk_at "rd"
          refine ⟨mo, wb, p1, ks, zs, fn, f1, rfl, db7.ex E36, n1.ex E36, fun r11 H37 e37 dr11 nr11 => ?_⟩
          have E37 := E36.trans e37
          walk_at "rd"
          obtain ⟨dx11, nn11, g11, _⟩ := dr11.at_
          refine ⟨r11, mo, dx11, dx, _, _, rfl, rfl, g11, E37 _ _ o1, r11, mo, wb, ks, zs, _, _, rfl, dr11, db7.ex E37, _, rfl, ?_⟩
          rw [if_neg Bool.false_ne_true]
          walk_at "rd"
          refine ⟨wv, p1, ks, zs, f1, rfl, hw7.ex E37, E37 _ _ h17, fun o ho => by have := b1 o ho; omega, fun pq H38 mn3 hmn3 hle3 e38 hpq npq => ?_⟩
          have E38 := E37.trans e38
          walk_at "rd"
          refine ⟨d, ks, zs, rfl, pl7.ex E38, ok, fun z1 H39 e39 hz1 nz1 => ?_⟩
          have E39 := E38.trans e39
          walk_at "rd"
          refine ⟨pq, z1, ks, fun k => f1 k - mn3, fun _ => 0, rfl, rfl, e39 _ _ hpq, hz1, ?_⟩
          rw [if_neg Bool.false_ne_true]
          refine Rd.ne rfl ?_
          rw [lent_iff ok hmn3, decide_eq_true rfl]
          refine ⟨_, rfl, ?_⟩
          refine Rd.iteF (by decide) ?_
          walk_at "rd"
          refine ⟨Nat.zero_le _, fun v1 g1 => ?_⟩
          have e40 : Ex H39 (upd H39 v1 (.lst [])) := Ex.new g1
          have t1 : (upd H39 v1 (.lst [])) v1 = some (.lst []) := upd_same
          generalize upd H39 v1 (.lst []) = H40 at e40 t1 ⊢
          walk_at "rd"
          refine ⟨Nat.zero_le _, fun v2 g2 => ?_⟩
          have e41 : Ex H40 (upd H40 v2 (.tup [])) := Ex.new g2
          have t2 : (upd H40 v2 (.tup [])) v2 = some (.tup []) := upd_same
          generalize upd H40 v2 (.tup []) = H41 at e41 t2 ⊢
          walk_at "rd"
          unfold tDNewK
          intro v3 g3
          have e42 : Ex H41 (upd H41 v3 (.dK [])) := Ex.new g3
          have t3 : (upd H41 v3 (.dK [])) v3 = some (.dK []) := upd_same
          generalize upd H41 v3 (.dK []) = H42 at e42 t3 ⊢
          walk_at "rd"
          unfold OwV.tTupIt
          walk_at "rd"
          have E42 := E39.trans (e40.trans (e41.trans e42))
          refine ⟨p1, amK ks f1, rfl, E42 _ _ h17, fun v4 as4 las g4 => ?_⟩
          have e43 : Ex H42 (upd H42 v4 (.tup (as4.map V.ref))) := Ex.new g4
          have t4 : (upd H42 v4 (.tup (as4.map V.ref))) v4 = some (.tup (as4.map V.ref)) := upd_same
          generalize upd H42 v4 (.tup (as4.map V.ref)) = H43 at e43 t4 ⊢
          walk_at "rd"
          unfold tSl
          walk_at "rd"
          refine ⟨p1, amK ks f1, rfl, (E42.trans e43) _ _ h17, fun H44 L5 ts5 e44 g5 _ _ t5 pr5 => ?_⟩
          unfold tPart tNoPart
          walk_at "rd"
          refine ⟨1, rfl, ?_⟩
          refine ⟨L5, _, rfl, SqL.of t5, fun S5 g6 => ?_⟩
          rw [cut1, ← List.map_drop]
          have e45 : Ex H44 (upd H44 S5 (.lst ((ts5.drop 1).map V.ref))) := Ex.new g6
          have t6 : (upd H44 S5 (.lst ((ts5.drop 1).map V.ref))) S5 = some (.lst ((ts5.drop 1).map V.ref)) := upd_same
          generalize upd H44 S5 (.lst ((ts5.drop 1).map V.ref)) = H45 at e45 t6 ⊢
          walk_at "rd"
          refine ⟨S5, ts5.drop 1, (amK ks f1).drop 1, rfl, SqL.of t6, paired_mv (paired_drop pr5) (fun a b h => SqT.of (e45 _ _ h)), fun v5 g7 => ?_⟩
          have ndk := asc_nodup ok.asc
          have ndd : (ks.drop 1).Nodup := ndk.sublist (List.drop_sublist 1 ks)
          rw [amK_drop, merge_amK ndd]
          have e46 : Ex H45 (upd H45 v5 (.dK (amK (ks.drop 1) f1))) := Ex.new g7
          have t7 : (upd H45 v5 (.dK (amK (ks.drop 1) f1))) v5 = some (.dK (amK (ks.drop 1) f1)) := upd_same
          generalize upd H45 v5 (.dK (amK (ks.drop 1) f1)) = H46 at e46 t7 ⊢
          walk_at "rd"
          have E46 := (E42.trans e43).trans (Ex.trans e44 (e45.trans e46))
          have bad : ∀ v ∈ [V.non, .int 0, .ref v1, .ref v2, .ref v3, .str "plan", .ref v4, .ref v5, .ref mo], Bad K ks H46 v := by
            have x45 := e45.trans e46
            have x43 := e43.trans (Ex.trans e44 x45)
            intro v hv
            rcases List.mem_cons.mp hv with rfl | hv
            · exact .inl ⟨_, .base .non, rfl⟩
            rcases List.mem_cons.mp hv with rfl | hv
            · exact .inl ⟨_, .base (.int 0), rfl⟩
            rcases List.mem_cons.mp hv with rfl | hv
            · exact .inl ⟨_, .base (.lst ((e41.trans (e42.trans x43)) _ _ t1)), rfl⟩
            rcases List.mem_cons.mp hv with rfl | hv
            · exact .inl ⟨_, .base (.tup ((e42.trans x43) _ _ t2)), rfl⟩
            rcases List.mem_cons.mp hv with rfl | hv
            · exact bad_len (x43 _ _ t3) (Nat.zero_le _) .nil (by show 0 ≠ _; omega)
            rcases List.mem_cons.mp hv with rfl | hv
            · exact .inl ⟨_, .base (.str _), rfl⟩
            rcases List.mem_cons.mp hv with rfl | hv
            · exact .inl ⟨_, .base (.tup ((Ex.trans e44 x45) _ _ t4)), rfl⟩
            rcases List.mem_cons.mp hv with rfl | hv
            · refine bad_len t7 (by unfold amK; rw [List.length_map, List.length_drop]; omega) (dh_amK f1 _) (by unfold amK; rw [List.length_map, List.length_drop]; omega)
            · rw [List.mem_singleton.mp hv]
              exact .inl ⟨_, .base (c'.ty.ty (E46 _ _ o1)), c'.nd⟩
          refine ⟨small64 (n := 9) (by decide), fun lo nlo => ?_⟩
          have EL : Ex H46 (wo lo (upd H46 lo (.lst [V.non, .int 0, .ref v1, .ref v2, .ref v3, .str "plan", .ref v4, .ref v5, .ref mo]))) := by
            rw [wo_upd]
            exact ex_wo nlo
          have l1 : (upd H46 lo (.lst [V.non, .int 0, .ref v1, .ref v2, .ref v3, .str "plan", .ref v4, .ref v5, .ref mo])) lo = some (.lst [V.non, .int 0, .ref v1, .ref v2, .ref v3, .str "plan", .ref v4, .ref v5, .ref mo]) := upd_same
          generalize upd H46 lo (.lst [V.non, .int 0, .ref v1, .ref v2, .ref v3, .str "plan", .ref v4, .ref v5, .ref mo]) = L0 at EL l1 ⊢
          have bad0 : ∀ v ∈ [V.non, .int 0, .ref v1, .ref v2, .ref v3, .str "plan", .ref v4, .ref v5, .ref mo], Bad K ks (wo lo L0) v := fun v hv => (bad v hv).ex EL
          have n0 : [V.non, .int 0, .ref v1, .ref v2, .ref v3, .str "plan", .ref v4, .ref v5, .ref mo].length = 9 := rfl
          have E0' : Ex H7 (wo lo L0) := E46.trans EL
          generalize [V.non, .int 0, .ref v1, .ref v2, .ref v3, .str "plan", .ref v4, .ref v5, .ref mo] = odd0 at l1 bad0 n0
          have b46 : Ex H33 H46 := (e34.trans (e35.trans (e36.trans (e37.trans (e38.trans e39))))).trans ((e40.trans (e41.trans e42)).trans (e43.trans (Ex.trans e44 (e45.trans e46))))
          have b0 := EL _ _ (b46 _ _ b33)
          have w0 := EL _ _ (b46 _ _ w33)
          have ntk0 := (ntk33.ex b46).ex EL
          clear bad EL nlo b46 b33 w33 ntk33 e34 e35 e36 e37 e38 e39 e40 e41 e42 e43 e44 e45 e46 t1 t2 t3 t4 t5 t6 t7 pr5 g1 g2 g3 g4 g5 g6 g7 las E34 E35 E36 E37 E38 E39 E42 E46 dr10 dr11 nr10 nr11 g10 g11 hpq npq hz1 nz1 hmn3 hle3
          walk_at "rd"
          dsimp only [List.set_cons_succ, List.set_cons_zero]
          unfold tBM
          walk_at "rd"
          refine ⟨.inl ⟨rfl, _, SqL.of l1⟩, ?_⟩
          walk_at "rd"
          refine ⟨p1, amK ks f1, rfl, wo_in _ _ _ _ (E0' _ _ h17), fun M1 L1 ts1 a1 b1' _ _ c1 pr1 => ?_⟩
          have a1 : Ex L0 M1 := a1
          walk_at "rd"
          refine ⟨small64 (n := 2) (by decide), fun tq htq => ?_⟩
          have a2 : Ex M1 (upd M1 tq (.tup [.str "qq", .int 0])) := Ex.new htq
          have c2 : (upd M1 tq (.tup [.str "qq", .int 0])) tq = some (.tup [.str "qq", .int 0]) := upd_same
          generalize upd M1 tq (.tup [.str "qq", .int 0]) = M2 at a2 c2 ⊢
          walk_at "rd"
          refine ⟨small64 (n := 1) (by decide), fun lq hlq => ?_⟩
          have a3 : Ex M2 (upd M2 lq (.lst [.ref tq])) := Ex.new hlq
          have c3 : (upd M2 lq (.lst [.ref tq])) lq = some (.lst [.ref tq]) := upd_same
          generalize upd M2 lq (.lst [.ref tq]) = M3 at a3 c3 ⊢
          walk_at "rd"
          refine ⟨L1, lq, _, _, rfl, rfl, (a2.trans a3) _ _ c1, c3, by rw [List.length_map, pr1.length]; unfold amK; rw [List.length_map]; exact small64 (by show ks.length + 1 < 64; omega), fun cq hcq => ?_⟩
          have a4 : Ex M3 (upd M3 cq (.lst (ts1.map V.ref ++ [.ref tq]))) := Ex.new hcq
          have c4 : (upd M3 cq (.lst (ts1.map V.ref ++ [.ref tq]))) cq = some (.lst ((ts1 ++ [tq]).map V.ref)) := by rw [upd_same, List.map_append]; rfl
          generalize upd M3 cq (.lst (ts1.map V.ref ++ [.ref tq])) = M4 at a4 c4 ⊢
          walk_at "rd"
          refine ⟨cq, ts1 ++ [tq], amK ks f1 ++ [((Sum.inr "qq" : Key), V.int 0)], rfl, SqL.of c4, (paired_mv pr1 fun a b h => SqT.of ((a2.trans (a3.trans a4)) _ _ h)).snoc (SqT.of ((a3.trans a4) _ _ c2)), fun v6 h6 => ?_⟩
          rw [merge_nil (keys_more ndk nqq)]
          have a5 : Ex M4 (upd M4 v6 (.dK (amK ks f1 ++ [((Sum.inr "qq" : Key), V.int 0)]))) := Ex.new h6
          have c6 : (upd M4 v6 (.dK (amK ks f1 ++ [((Sum.inr "qq" : Key), V.int 0)]))) v6 = some (.dK (amK ks f1 ++ [((Sum.inr "qq" : Key), V.int 0)])) := upd_same
          generalize upd M4 v6 (.dK (amK ks f1 ++ [((Sum.inr "qq" : Key), V.int 0)])) = M5 at a5 c6 ⊢
          walk_at "rd"
          have a15 : Ex L0 M5 := a1.trans (a2.trans (a3.trans (a4.trans a5)))
          have nlv : v6 ≠ lo := fun e => by
            have z := (a1.trans (a2.trans (a3.trans a4))) _ _ l1
            rw [← e, h6] at z
            exact nomatch z
          refine ⟨lo, odd0, .ref v6, rfl, rfl, a15 _ _ l1, by rw [n0]; exact small64 (by decide), ?_⟩
          have ew : Ex (wo lo L0) (wo lo (upd M5 lo (.lst (odd0 ++ [.ref v6])))) := by
            rw [wo_upd]
            exact wo_ex a15
          have bad1 : ∀ v ∈ odd0 ++ [.ref v6], Bad K ks (wo lo (upd M5 lo (.lst (odd0 ++ [.ref v6])))) v := fun v hv => by
            rcases List.mem_append.mp hv with hv | hv
            · exact (bad0 v hv).ex ew
            · rw [List.mem_singleton.mp hv, wo_upd]
              refine bad_len (wo_of c6 nlv) ?_ (by rw [List.map_append]; exact dh_cat (dh_amK f1 ks) (.cons (.int 0) .nil)) ?_
              · rw [List.length_append]; unfold amK; rw [List.length_map]; show _ + 1 ≤ _; omega
              · rw [List.length_append]; unfold amK; rw [List.length_map]; show _ + 1 ≠ _; omega
          have l2 : (upd M5 lo (.lst (odd0 ++ [.ref v6]))) lo = some (.lst (odd0 ++ [.ref v6])) := upd_same
          have n1' : (odd0 ++ [V.ref v6]).length = 10 := by rw [List.length_append, n0]; rfl
          generalize upd M5 lo (.lst (odd0 ++ [.ref v6])) = L2' at ew l2 bad1 ⊢
          generalize odd0 ++ [V.ref v6] = odd1 at l2 bad1 n1'
          have E2' := E0'.trans ew
          have b2' := ew _ _ b0
          have w2' := ew _ _ w0
          have ntk2 := ntk0.ex ew
          clear a1 a2 a3 a4 a5 a15 c1 c2 c3 c4 c6 pr1 b1' h6 hcq hlq htq l1 bad0 n0 b0 w0 ntk0 ew E0'
          walk_at "rd"
          with_reducible refine Rd.for' ?_
          refine Rd.ilist' ?_
          walk_at "rd"
          refine ⟨small64 (n := 1) (by decide), fun t5 h5 => ?_⟩
          have a1 : Ex L2' (upd L2' t5 (.tup [.int 1])) := Ex.new h5
          have c1 : (upd L2' t5 (.tup [.int 1])) t5 = some (.tup [.int 1]) := upd_same
          generalize upd L2' t5 (.tup [.int 1]) = L3' at a1 c1 ⊢
          walk_at "rd"
          refine ⟨10, 60, rfl, rfl, ⟨by decide, by decide, by decide⟩, ?_⟩
          walk_at "rd"
          generalize hbig : (fun i j : Int => V.int (i ^ j.toNat)) 10 60 = big
          refine ⟨small64 (n := 5) (by decide), fun wl hwl => ?_⟩
          refine ⟨wl, rfl, ⟨_, SqL.of upd_same⟩, ?_⟩
          have a2 : Ex L3' (upd L3' wl (.lst [V.non, .bl true, .str "1", .ref t5, big])) := Ex.new hwl
          have c2 : (upd L3' wl (.lst [V.non, .bl true, .str "1", .ref t5, big])) wl = some (.lst [V.non, .bl true, .str "1", .ref t5, big]) := upd_same
          have nwl : wl ≠ lo := fun e => by
            have z := a1 _ _ l2
            rw [← e, hwl] at z
            exact nomatch z
          have nt5 : t5 ≠ lo := fun e => by
            rw [← e, h5] at l2
            exact nomatch l2
          generalize upd L3' wl (.lst [V.non, .bl true, .str "1", .ref t5, big]) = L4' at a2 c2 ⊢
          have dhw : ∀ z ∈ [V.non, .bl true, .str "1", .ref t5, big], ∃ dd, Dh (wo lo L4') z dd ∧ integerD dd = false := fun z hz => by
            rcases List.mem_cons.mp hz with rfl | hz
            · exact ⟨_, .non, rfl⟩
            rcases List.mem_cons.mp hz with rfl | hz
            · exact ⟨_, .bl true, rfl⟩
            rcases List.mem_cons.mp hz with rfl | hz
            · exact ⟨_, .str _ (by decide), rfl⟩
            rcases List.mem_cons.mp hz with rfl | hz
            · exact ⟨_, .tup (wo_of (a2 _ _ c1) nt5) (by decide) (.cons (.int 1) .nil), rfl⟩
            · rw [List.mem_singleton.mp hz, ← hbig]
              exact ⟨_, .int _, by decide +kernel⟩
          generalize h5s : [V.non, .bl true, .str "1", .ref t5, big] = five at c2 dhw
          have n5 : five.length = 5 := by rw [← h5s]; rfl
          have ew4 : Ex (wo lo L2') (wo lo L4') := wo_ex (a1.trans a2)
          have w4l := wo_of c2 nwl
          have E4' := E2'.trans ew4
          obtain ⟨k0, hk0, nk0⟩ := head_not ndk k2
          refine for_it (walk_list (xs := five)) (fun i σ H' => ∃ (x : Option V) (odd : List V), σ = [some (.ref a), some (.ref d), some (.ref m), some (.ref wv), some (.ref mo), some (.ref p1), some (.ref p2), some (.int n), some (.ref la), some (.ref tk), some (.ref bo), some (.ref du), some (.ref hb), some (.ref wd), some (.ref lo), x, none, none] ∧ Ex (wo lo L4') (wo lo H') ∧ H' lo = some (.lst odd) ∧ odd.length = 10 + i ∧ ∀ v ∈ odd, Bad K ks (wo lo H') v)
            ⟨none, odd1, rfl, Ex.refl _, (a1.trans a2) _ _ l2, n1', fun v hv => (bad1 v hv).ex ew4⟩ (fun i σ H' _ hP => ?_) (fun i z σ H3 H4 hi hP hY => ?_) (fun σ H3 hP => ?_)
          · obtain ⟨_, _, _, e3, _⟩ := hP
            exact SqL.of (wo_in _ _ _ _ (e3 _ _ w4l))
          · obtain ⟨x, odd, rfl, e3, hl, hn, hb⟩ := hP
            obtain ⟨rfl, hz⟩ := hY
            obtain ⟨dd, hdd, hdi⟩ := dhw z (List.mem_of_getElem? hz)
            walk_at "rd"
            dsimp only [List.set_cons_succ, List.set_cons_zero]
            refine ⟨.inl ⟨rfl, _, SqL.of hl⟩, ?_⟩
            have EH : Ex H7 (wo lo H4) := E4'.trans e3
            walk_at "rd"
            refine ⟨p1, amK ks f1, rfl, wo_in _ _ _ _ (EH _ _ h17), fun M1 La tsa a3 _ _ _ c3 pr3 => ?_⟩
            have a3 : Ex H4 M1 := a3
            walk_at "rd"
            refine ⟨1, rfl, ?_⟩
            walk_at "rd"
            refine ⟨La, _, rfl, SqL.of c3, fun Sb hSb => ?_⟩
            rw [cut1, ← List.map_drop]
            have a4 : Ex M1 (upd M1 Sb (.lst ((tsa.drop 1).map V.ref))) := Ex.new hSb
            have c4 : (upd M1 Sb (.lst ((tsa.drop 1).map V.ref))) Sb = some (.lst ((tsa.drop 1).map V.ref)) := upd_same
            generalize upd M1 Sb (.lst ((tsa.drop 1).map V.ref)) = M2 at a4 c4 ⊢
            walk_at "rd"
            have EM2 : Ex H7 M2 := (EH.trans (wo_in lo H4)).trans (a3.trans a4)
            refine ⟨d, _, rfl, gk M2 EM2, ?_⟩
            walk_at "rd"
            refine Rd.ixl (SqL.of (EM2 _ _ hkp)) (at_nat 0 rfl (by rw [List.getElem?_map, hk0]; rfl)) ?_
            walk_at "rd"
            refine ⟨small64 (n := 2) (by decide), fun tq htq => ?_⟩
            have a5 : Ex M2 (upd M2 tq (.tup [.str k0, z])) := Ex.new htq
            have c5 : (upd M2 tq (.tup [.str k0, z])) tq = some (.tup [.str k0, z]) := upd_same
            generalize upd M2 tq (.tup [.str k0, z]) = M3 at a5 c5 ⊢
            walk_at "rd"
            refine ⟨small64 (n := 1) (by decide), fun lq hlq => ?_⟩
            have a6 : Ex M3 (upd M3 lq (.lst [.ref tq])) := Ex.new hlq
            have c6 : (upd M3 lq (.lst [.ref tq])) lq = some (.lst [.ref tq]) := upd_same
            generalize upd M3 lq (.lst [.ref tq]) = M4 at a6 c6 ⊢
            walk_at "rd"
            have ltd : (tsa.drop 1).length + 1 < 64 := by
              rw [List.length_drop, pr3.length]; unfold amK; rw [List.length_map]; omega
            refine ⟨Sb, lq, _, _, rfl, rfl, (a5.trans a6) _ _ c4, c6, by rw [List.length_map]; exact small64 ltd, fun cq hcq => ?_⟩
            have a7 : Ex M4 (upd M4 cq (.lst ((tsa.drop 1).map V.ref ++ [.ref tq]))) := Ex.new hcq
            have c7 : (upd M4 cq (.lst ((tsa.drop 1).map V.ref ++ [.ref tq]))) cq = some (.lst ((tsa.drop 1 ++ [tq]).map V.ref)) := by rw [upd_same, List.map_append]; rfl
            generalize upd M4 cq (.lst ((tsa.drop 1).map V.ref ++ [.ref tq])) = M5 at a7 c7 ⊢
            walk_at "rd"
            refine ⟨cq, tsa.drop 1 ++ [tq], amK (ks.drop 1) f1 ++ [((Sum.inr k0 : Key), z)], rfl, SqL.of c7, ?_, fun v7 h7 => ?_⟩
            · rw [← amK_drop]
              exact (paired_mv (paired_drop pr3) fun a b h => SqT.of ((a4.trans (a5.trans (a6.trans a7))) _ _ h)).snoc (SqT.of ((a6.trans a7) _ _ c5))
            · rw [merge_nil (keys_more ndd nk0)]
              have a8 : Ex M5 (upd M5 v7 (.dK (amK (ks.drop 1) f1 ++ [((Sum.inr k0 : Key), z)]))) := Ex.new h7
              have c8 : (upd M5 v7 (.dK (amK (ks.drop 1) f1 ++ [((Sum.inr k0 : Key), z)]))) v7 = some (.dK (amK (ks.drop 1) f1 ++ [((Sum.inr k0 : Key), z)])) := upd_same
              generalize upd M5 v7 (.dK (amK (ks.drop 1) f1 ++ [((Sum.inr k0 : Key), z)])) = M6 at a8 c8 ⊢
              walk_at "rd"
              have a37 : Ex H4 M5 := a3.trans (a4.trans (a5.trans (a6.trans a7)))
              have a38 : Ex H4 M6 := a37.trans a8
              have nlv : v7 ≠ lo := fun e => by
                have z := a37 _ _ hl
                rw [← e, h7] at z
                exact nomatch z
              refine ⟨lo, odd, .ref v7, rfl, rfl, a38 _ _ hl, by rw [hn]; exact small64 (by omega), ?_⟩
              refine ⟨_, odd ++ [.ref v7], rfl, ?_, upd_same, by rw [List.length_append, hn]; rfl, fun v hv => ?_⟩
              · rw [wo_upd]
                exact e3.trans (wo_ex a38)
              · rw [wo_upd]
                rcases List.mem_append.mp hv with hv | hv
                · exact (hb v hv).ex (wo_ex a38)
                · rw [List.mem_singleton.mp hv]
                  exact bad_val (wo_of c8 nlv) (by rw [List.length_drop]; omega) (hdd.mv (wo_new (e3.trans (wo_ex a38)) (none_ex (e3.trans (wo_ex a37)) (wo_none h7)))) hdi
          · obtain ⟨x, odd, rfl, e3, hl, hn, hbd⟩ := hP
            have EH : Ex H7 (wo lo H3) := E4'.trans e3
            walk_at "rd"
            refine Rd.lcm' (Rd.ilist' ?_)
            walk_at "rd"
            refine ⟨lo, rfl, ⟨_, SqL.of hl⟩, fun D hD => ?_⟩
            refine lc_nothing walk_list (fun H' e => SqL.of (e _ _ hl)) hD (fun _ => rfl) (fun v hv Ha ea R hR => ?_) (fun H5 e5 hD5 => ?_)
            · rw [show (wipe [some (V.ref a), some (V.ref d), some (V.ref m), some (V.ref wv), some (V.ref mo), some (V.ref p1), some (V.ref p2), some (V.int n), some (V.ref la), some (V.ref tk), some (V.ref bo), some (V.ref du), some (V.ref hb), some (V.ref wd), some (V.ref lo), x, none, none] (List.map (fun x => x.snd) [(Str.ofString "_law_value", 17)])).set 17 (some v) = [some (V.ref a), some (V.ref d), some (V.ref m), some (V.ref wv), some (V.ref mo), some (V.ref p1), some (V.ref p2), some (V.int n), some (V.ref la), some (V.ref tk), some (V.ref bo), some (V.ref du), some (V.ref hb), some (V.ref wd), some (V.ref lo), x, none, some v] from rfl]
              walk_at "rd"
              have eX : Ex (wo lo H3) Ha := (wo_in lo H3).trans ea
              refine ((hbd v hv).ex eX).num (hw7.ex (EH.trans eX)) fun Hb eb => ?_
              walk_at "rd"
              refine ⟨false, false, rfl, rfl, _, rfl, ?_⟩
              exact hR Hb eb
            · walk_at "rd"
              refine ⟨Nat.zero_le _, fun v8 g8 => ?_⟩
              refine ⟨.list [], .list [], .lst (SqL.of ((Ex.new g8) _ _ hD5)) .nil, .lst (SqL.of upd_same) .nil, rfl, rfl, _, rfl, ?_⟩
              refine Rd.iteF (by decide +kernel) ?_
              have e6 := e5.trans (Ex.new (o := .lst []) g8)
              generalize upd H5 v8 (.lst []) = H6' at e6 ⊢
              have eZ : Ex (wo lo H3) H6' := (wo_in lo H3).trans e6
              have E6' := EH.trans eZ
              walk_at "rd"
              refine Rd.lcm' (Rd.itup' ?_)
              walk_at "rd"
              refine ⟨small64 (n := 4) (by decide), fun tp htp => ?_⟩
              have e7 : Ex H6' (upd H6' tp (.tup [.ref p1, .ref bo, .ref wd, .ref tk])) := Ex.new htp
              have t7 : (upd H6' tp (.tup [.ref p1, .ref bo, .ref wd, .ref tk])) tp = some (.tup [.ref p1, .ref bo, .ref wd, .ref tk]) := upd_same
              generalize upd H6' tp (.tup [.ref p1, .ref bo, .ref wd, .ref tk]) = H8' at e7 t7 ⊢
              refine ⟨tp, rfl, ⟨_, SqT.of t7⟩, fun D hD => ?_⟩
              have eY : Ex (wo lo L2') H8' := ew4.trans (e3.trans (eZ.trans e7))
              have nums : ∀ v ∈ [V.ref p1, .ref bo, .ref wd, .ref tk], ∃ (vm : Addr) (vf : Str → Int), v = .ref vm ∧ Nums H8' vm ks vf := fun v hv => by
                rcases List.mem_cons.mp hv with rfl | hv
                · exact ⟨_, _, rfl, n1.ex (E6'.trans e7)⟩
                rcases List.mem_cons.mp hv with rfl | hv
                · exact ⟨_, _, rfl, amK_numsF (eY _ _ b2') k9 bbd⟩
                rcases List.mem_cons.mp hv with rfl | hv
                · exact ⟨_, _, rfl, amK_numsF (eY _ _ w2') k9 (fun o ho => by have := b1 o ho; show (f1 o + n).natAbs < _; omega)⟩
                · rw [List.mem_singleton.mp hv]
                  exact ⟨_, _, rfl, ntk2.ex eY⟩
              refine lc_nothing walk_tup (fun H' e => SqT.of (e _ _ t7)) hD (fun _ => rfl) (fun v hv Ha ea R hR => ?_) (fun H9' e9 hD9 => ?_)
              · rw [show (wipe [some (V.ref a), some (V.ref d), some (V.ref m), some (V.ref wv), some (V.ref mo), some (V.ref p1), some (V.ref p2), some (V.int n), some (V.ref la), some (V.ref tk), some (V.ref bo), some (V.ref du), some (V.ref hb), some (V.ref wd), some (V.ref lo), x, none, none] (List.map (fun x => x.snd) [(Str.ofString "_law_value", 17)])).set 17 (some v) = [some (V.ref a), some (V.ref d), some (V.ref m), some (V.ref wv), some (V.ref mo), some (V.ref p1), some (V.ref p2), some (V.int n), some (V.ref la), some (V.ref tk), some (V.ref bo), some (V.ref du), some (V.ref hb), some (V.ref wd), some (V.ref lo), x, none, some v] from rfl]
                obtain ⟨vm, vf, rfl, nv⟩ := nums v hv
                walk_at "rd"
                refine (nv.ex ea).num (hw7.ex ((E6'.trans e7).trans ea)) fun Hb eb => ?_
                walk_at "rd"
                refine ⟨true, true, rfl, rfl, _, rfl, ?_⟩
                exact hR Hb eb
              · walk_at "rd"
                refine ⟨Nat.zero_le _, fun v9 g9 => ?_⟩
                refine ⟨.list [], .list [], .lst (SqL.of ((Ex.new g9) _ _ hD9)) .nil, .lst (SqL.of upd_same) .nil, rfl, rfl, ?_⟩
                rw [show PyData.eqv (.list []) (.list []) = true by decide +kernel]
                exact fin _ ((E6'.trans e7).trans (e9.trans (Ex.new g9)))
end
end OwW


namespace OwW
open PySem PyProof.Rows L2 L2H OwX Rd Evl
abbrev sLine : Stmt := top 42
abbrev sDLines : Stmt := mth 32 9
abbrev NDl : List Str := ["self", "place", "amount"]
/-- a number with few figures -/
abbrev FewF (n : Int) : Prop := n.natAbs.log2 < 1920 ∧ (-n).natAbs.log2 < 1920 ∧ (Str.ofString (toString n)).length ≤ 1000 ∧ (Str.ofString (toString (-n))).length ≤ 1000
/-- the line of a place -/
def lineS (p : Str) (n : Int) : Str := if 0 < n then ((Str.empty ++ p) ++ (" has " : Str)) ++ Str.ofString (toString n) else ((Str.empty ++ p) ++ (" owes " : Str)) ++ Str.ofString (toString (-n))
def spLine : Sp := fun vs H Q _ => ∃ (p : Str) (n : Int), vs = [.str p, .int n] ∧ p.length ≤ 1000 ∧ FewF n ∧ Q (.str (lineS p n)) H
def linesL (ks : List Str) (f : Str → Int) : List Str := (ks.filter fun k => decide (f k ≠ 0)).map fun k => lineS k (f k)
def spDLines (CW CD : Addr) : Sp := fun vs H Q _ => ∃ (a wb : Addr) (ks : List Str) (ys : TL) (f : Str → Int), vs = [.ref a] ∧ IsDebts CW CD H a wb ks ys f ∧ (∀ k ∈ ks, FewF (f k)) ∧
  ∀ p H', Ex H H' → H' p = some (.tup ((linesL ks f).map V.str)) → Q (.ref p) H'
theorem len_cat (a b : Str) : (a ++ b).length = a.length + b.length := by
  show (a.cps ++ b.cps).size = _
  rw [Array.size_append]
  rfl
section
variable {P : Program} {w : World} {K : PySem.W.Frag} {mg : Str → Option Value} {base : Heap}
theorem scLine : FnScope ["place", "amount"] ["place", "amount"] (defScope sLine) := ⟨rfl, rfl, rfl, by decide +kernel, rfl, by decide +kernel, by decide +kernel⟩
theorem ok_line {f : Addr} {fd : FuncData} (F : Fun K "_line" "_line" sLine f fd) : FnOk P w K mg base CX0 1 f fd ["place", "amount"] spLine := by
  have nd := scLine.nd
  refine F.ok scLine (fun vs H Q E h => ?_) (fun cdv A outer s H vs Q E hr h => ⟨_, (pss_one (ps_ret (pe_ifExp (pt_cmpR op_gt (pv 1) pe_int (nomark _)) (pe_joined (.cons (pe_fmt (pv 0)) (.cons pe_str (.cons (pe_fmt (pv 1)) .nil)))) (pe_joined (.cons (pe_fmt (pv 0)) (.cons pe_str (.cons (pe_fmt (pe_un un_neg (pv 1))) .nil))))))), ?_⟩)
  · obtain ⟨p, n, rfl, _⟩ := h
    rfl
  · obtain ⟨p, n, rfl, hp, ⟨l1, l2, l3, l4⟩, k⟩ := h
    have e0 : (Str.empty ++ p).length ≤ 1000 := by rw [len_cat]; exact (show 0 + p.length ≤ 1000 by omega)
    have sz : ∀ {x : Str}, x.length ≤ 3000 → x.length ≤ sizeLine := fun h => Nat.le_trans h (by decide)
    rw [show L2.start ["place", "amount"] [V.str p, V.int n] = [some (.str p), some (.int n)] from rfl]
    walk_at "rd"
    by_cases c : 0 < n
    · rw [if_pos (decide_eq_true c)]
      unfold tJs tFmt
      walk_at "rd"
      refine .inl ⟨p, rfl, sz (by omega), ?_⟩
      refine ⟨p, rfl, sz (by omega), ?_⟩
      unfold tJs
      walk_at "rd"
      refine ⟨_, rfl, sz (by rw [len_cat]; exact (show (Str.empty ++ p).length + 5 ≤ 3000 by omega)), ?_⟩
      unfold tJs
      walk_at "rd"
      refine .inr ⟨n, rfl, l1, ?_⟩
      refine ⟨_, rfl, sz (by rw [len_cat, len_cat]; have : ((" has " : Str)).length = 5 := rfl; omega), ?_⟩
      unfold tJs
      show Q (.str _) H
      unfold lineS at k
      rw [if_pos c] at k
      exact k
    · rw [if_neg (fun h => c (of_decide_eq_true h))]
      unfold tJs tFmt
      walk_at "rd"
      refine .inl ⟨p, rfl, sz (by omega), ?_⟩
      refine ⟨p, rfl, sz (by omega), ?_⟩
      unfold tJs
      walk_at "rd"
      refine ⟨_, rfl, sz (by rw [len_cat]; exact (show (Str.empty ++ p).length + 6 ≤ 3000 by omega)), ?_⟩
      unfold tJs
      walk_at "rd"
      refine .inr ⟨-n, rfl, l2, ?_⟩
      refine ⟨_, rfl, sz (by rw [len_cat, len_cat]; have : ((" owes " : Str)).length = 6 := rfl; omega), ?_⟩
      unfold tJs
      show Q (.str _) H
      unfold lineS at k
      rw [if_neg c] at k
      exact k
theorem lines_step {ks : List Str} {f : Str → Int} {i : Nat} {k : Str} (h : ks[i]? = some k) : linesL (ks.take (i + 1)) f = linesL (ks.take i) f ++ if f k ≠ 0 then [lineS k (f k)] else [] := by
  rw [List.take_add_one, h]
  unfold linesL
  rw [List.filter_append, List.map_append]
  congr 1
  by_cases c : f k ≠ 0
  · rw [if_pos c]
    show List.map _ (List.filter _ [k]) = _
    rw [List.filter_cons_of_pos (by exact decide_eq_true c)]
    rfl
  · rw [if_neg c]
    show List.map _ (List.filter _ [k]) = _
    rw [List.filter_cons_of_neg (by simpa using c)]
    rfl
theorem scDLines : FnScope NDl ["self"] (defScope sDLines) := ⟨rfl, rfl, rfl, by decide +kernel, rfl, by decide +kernel, by decide +kernel⟩
theorem ok_dlines {f g CW CD : Addr} {fd gd : FuncData} (F : Fun K "lines" "Debts.lines" sDLines f fd) (DK : DebtsK K CD) (FL : Fun K "_line" "_line" sLine g gd) (gL : mg "_line" = some (.ref g)) (GL : FnOk P w K mg base CX0 1 g gd ["place", "amount"] spLine) (gTu : mg "tuple" = none) : FnOk P w K mg base CX0 2 f fd ["self"] (spDLines CW CD) := by
  have nd := scDLines.nd
  have bL : Binds K gd ["place", "amount"] [] := FL.binds fun _ _ _ _ _ _ us hl => match us, hl with | [_, _], _ => rfl
  refine F.ok scDLines (fun vs H Q E h => ?_) (fun cdv A outer s H vs Q E hr h => ⟨_, (pss_one (ps_ret (pe_callTy call_tuple_of (by rfl) gTu (by decide +kernel) (pa_cons (pe_lock (pe_lc (own := [("place", 1), ("amount", 2)]) (g := gTup K 2 (gCons (gName 1) (gCons (gName 2) gNil))) (tt := tTest (tOp rNe (tVar 2) (tC (.int 0)))) rfl nd (pi_items (pe_fld (pv 0) rfl)) (blkOk_by (own := [("place", 1), ("amount", 2)]) (N := NDl) (sc := defScope sDLines) (by decide +kernel)) (fun _ _ _ _ _ => (pg_tup rfl (pgs_cons (pg_name (i := 1) nd rfl (Or.inl rfl)) (pgs_cons (pg_name (i := 2) nd rfl (Or.inl rfl)) pgs_nil)))) (fun _ _ _ _ _ => (pts_one (pt_cmpR op_ne (pv 2) pe_int (nomark _)))) (fun _ _ _ _ _ => (pe_call GL (hr.mono (by decide)) (by rfl) gL FL.kp bL .nil pass0 (pa_cons (pv 1) (pa_cons (pv 2) pa_nil)))))) pa_nil)))), ?_⟩)
  · obtain ⟨a, wb, ks, ys, fn, rfl, _⟩ := h
    rfl
  · obtain ⟨a, wb, ks, ys, fn, rfl, db, hf, k⟩ := h
    have k9 := db.web.ok.nine
    obtain ⟨dx, n, h1, h2⟩ := db.at_
    rw [show L2.start NDl [V.ref a] = [some (.ref a), none, none] from rfl]
    walk_at "rd"
    have an : a ≠ n := fun e => by
      rw [e, h2] at h1
      exact nomatch h1
    refine ⟨n, .dK (amK ks fn), h2, trivial, fun od => ?_⟩
    have La : (upd H n (.frz od (.dK (amK ks fn)))) n = some (.frz od (.dK (amK ks fn))) := upd_same
    have L1 : (upd H n (.frz od (.dK (amK ks fn)))) a = some (.ins CD dx [("_web", .ref wb), ("_amounts", .ref n)]) := (upd_ne an).trans h1
    have back : ∀ H', Ex (upd H n (.frz od (.dK (amK ks fn)))) H' → Ex H (upd H' n (.dK (amK ks fn))) := fun H' e b o hb => by
      by_cases c : b = n
      · rw [c] at hb ⊢
        rw [h2] at hb
        cases hb
        exact upd_same
      · exact (upd_ne c).trans (e _ _ ((upd_ne c).trans hb))
    generalize upd H n (.frz od (.dK (amK ks fn))) = L at La L1 back ⊢
    refine Rd.lcm' ?_
    unfold iItems tFld
    walk_at "rd"
    refine ⟨a, CD, dx, _, .ref n, rfl, L1, DK.cls, DK.na, rfl, ?_⟩
    refine ⟨n, od, amK ks fn, rfl, La, fun D hD => ?_⟩
    have ln : (amK ks fn).length = ks.length := by unfold amK; rw [List.length_map]
    refine lc_it walk_items (fun i H' => Ex L H' ∧ H' D = some (.lst ((linesL (ks.take i) fn).map V.str))) ⟨Ex.new hD, upd_same⟩ (fun i H' _ hP => hP.1 _ _ La) (fun i z Ha Hb hi hP hY => ?_) (fun H' hP => ?_)
    · obtain ⟨e1, hd1⟩ := hP
      obtain ⟨T, x, y, rfl, hT, rfl, hx, hy⟩ := hY
      have hx : (amK ks fn)[i]?.map (fun kv => kV kv.1) = some x := hx
      have hy : (amK ks fn)[i]?.map Prod.snd = some y := hy
      unfold amK at hx hy
      rw [List.getElem?_map] at hx hy
      cases ho : ks[i]? with
      | none => rw [ho] at hx; exact nomatch hx
      | some o =>
        rw [ho] at hx hy
        cases hx
        cases hy
        have om := List.mem_of_getElem? ho
        have e2 : Ex L (upd Ha T (.tup [.str o, .int (fn o)])) := e1.trans (Ex.new hT)
        have d2 : (upd Ha T (.tup [.str o, .int (fn o)])) D = some (.lst ((linesL (ks.take i) fn).map V.str)) := (Ex.new hT) _ _ hd1
        have t2 : (upd Ha T (.tup [.str o, .int (fn o)])) T = some (.tup [.str o, .int (fn o)]) := upd_same
        show gTup K 2 _ (V.ref T) _ (upd Ha T (.tup [.str o, .int (fn o)])) _
        generalize upd Ha T (.tup [.str o, .int (fn o)]) = H2 at e2 d2 t2 ⊢
        have ll : (linesL (ks.take i) fn).length ≤ 9 := by
          unfold linesL
          rw [List.length_map]
          exact Nat.le_trans (List.length_filter_le _ _) (by rw [List.length_take]; omega)
        rw [show wipe [some (V.ref a), none, none] (List.map (fun x => x.snd) [(Str.ofString "place", 1), (Str.ofString "amount", 2)]) = [some (V.ref a), none, none] from rfl]
        walk_at "rd"
        refine ⟨T, [.str o, .int (fn o)], rfl, SqT.of t2, rfl, .str o, [.int (fn o)], rfl, ?_⟩
        walk_at "rd"
        refine ⟨.int (fn o), [], rfl, ?_⟩
        walk_at "rd"
        refine ⟨rfl, ?_⟩
        dsimp only [List.set_cons_succ, List.set_cons_zero]
        refine ⟨rfl, ?_⟩
        walk_at "rd"
        refine ⟨rfl, _, rfl, ?_⟩
        rw [lines_step ho]
        by_cases c : fn o = 0
        · rw [show (!decide (V.int (fn o) = V.int 0)) = false by rw [c]; rfl, if_neg Bool.false_ne_true, if_neg (fun h => h c), List.append_nil]
          exact ⟨e2, d2⟩
        · rw [show (!decide (V.int (fn o) = V.int 0)) = true by simp [c], if_pos rfl, if_pos c]
          walk_at "rd"
          refine ⟨o, fn o, rfl, Nat.le_trans (name_short (db.web.ok.names o om)) (by decide), hf o om, ?_⟩
          refine ⟨_, d2, sz_lt (by rw [List.length_map]; omega), e2.mut hD, ?_⟩
          rw [upd_same, List.map_append]
          rfl
    · obtain ⟨e1, hd1⟩ := hP
      refine ⟨e1 _ _ La, ?_⟩
      rw [ln, List.take_length] at hd1
      have dn : D ≠ n := fun e => by
        rw [e, La] at hD
        exact nomatch hD
      have hd2 : (upd H' n (.dK (amK ks fn))) D = some (.lst ((linesL ks fn).map V.str)) := (upd_ne dn).trans hd1
      walk_at "rd"
      refine ⟨D, _, rfl, .inl ⟨SqL.of hd2, fun l hl => ?_⟩⟩
      exact k l _ ((back H' e1).trans (Ex.new hl)) upd_same
end
end OwW


namespace OwW
open PySem PyProof.Rows L2 L2H OwX Rd Evl
abbrev sLWri : Stmt := top 54
abbrev NLx : List Str := ["_law_way", "_law_table", "_law_ties", "_law_place", "_law_other"]
/-- the kite -/
def kiteT : List (Str × List Str) := [("a", ["b", "c"]), ("b", ["a", "c", "d"]), ("c", ["a", "d", "b"]), ("d", ["b", "c"])]
def kiteK : List Str := ["a", "b", "c", "d"]
def kiteE : List (Str × Str) := [("a", "b"), ("a", "c"), ("b", "c"), ("b", "d"), ("c", "d")]
def spLWri : Sp := fun vs H Q _ => vs = [.int 1] ∧ ∀ p d t H' (zs : TL), Ex H H' → H' p = some (.tup [.ref d, .ref t]) → PlainAt H' d kiteK zs → zs.map (·.2) = kiteE → H d = none → Q (.ref p) H'
def kiteP (i : Nat) : List (Str × Str) := (kiteT.take i).flatMap fun p => p.2.map fun o => norm (p.1, o)
theorem pw_uniq {α : Type} {r : α → α → Bool} (ir : ∀ a, r a a = false) (tr : ∀ {a b c}, r a b = true → r b c = true → r a c = true) : ∀ {l m : List α}, l.Pairwise (fun a b => r a b = true) → m.Pairwise (fun a b => r a b = true) → (∀ x, x ∈ l ↔ x ∈ m) → l = m
  | [], [], _, _, _ => rfl
  | [], y :: m, _, _, h => nomatch (h y).mpr List.mem_cons_self
  | x :: l, [], _, _, h => nomatch (h x).mp List.mem_cons_self
  | x :: l, y :: m, a, b, h => by
    have a' := List.pairwise_cons.mp a
    have b' := List.pairwise_cons.mp b
    have no : ∀ z, r z z = true → False := fun z hz => by rw [ir z] at hz; exact nomatch hz
    have xy : x = y := by
      rcases List.mem_cons.mp ((h x).mp List.mem_cons_self) with e | e
      · exact e
      · rcases List.mem_cons.mp ((h y).mpr List.mem_cons_self) with g | g
        · exact g.symm
        · exact (no x (tr (a'.1 y g) (b'.1 x e))).elim
    subst xy
    rw [pw_uniq ir tr a'.2 b'.2 fun z => ?_]
    constructor
    · intro hz
      rcases List.mem_cons.mp ((h z).mp (List.mem_cons_of_mem _ hz)) with e | e
      · exact (no x (by have q := a'.1 z hz; rw [e] at q; exact q)).elim
      · exact e
    · intro hz
      rcases List.mem_cons.mp ((h z).mpr (List.mem_cons_of_mem _ hz)) with e | e
      · exact (no x (by have q := b'.1 z hz; rw [e] at q; exact q)).elim
      · exact e
theorem kite_asc : kiteK.Pairwise (fun a b => OwL2.lt a b = true) := by decide +kernel
theorem kite_tasc : kiteE.Pairwise (fun a b => OwL2.ltP a b = true) := by decide +kernel
theorem kite_keys {ks : List Str} (asc : ks.Pairwise (fun a b => OwL2.lt a b = true)) (km : ∀ k, k ∈ ks ↔ ∃ t ∈ kiteP 4, k = t.1 ∨ k = t.2) : ks = kiteK := by
  refine pw_uniq lt_irr lt_tr asc kite_asc fun k => ?_
  rw [km k]
  constructor
  · rintro ⟨t, ht, e⟩
    have z : ∀ t ∈ kiteP 4, t.1 ∈ kiteK ∧ t.2 ∈ kiteK := by decide +kernel
    rcases e with e | e
    · rw [e]; exact (z t ht).1
    · rw [e]; exact (z t ht).2
  · intro h
    have z : ∀ k ∈ kiteK, ∃ t ∈ kiteP 4, k = t.1 ∨ k = t.2 := by decide +kernel
    exact z k h
theorem kite_ties {ts : List (Str × Str)} (tasc : ts.Pairwise (fun a b => OwL2.ltP a b = true)) (tm : ∀ t, t ∈ ts ↔ t ∈ (kiteP 4).map norm) : ts = kiteE := by
  refine pw_uniq ltP_irr ltP_tr tasc kite_tasc fun t => ?_
  rw [tm t]
  have z : ∀ t ∈ (kiteP 4).map norm, t ∈ kiteE := by decide +kernel
  have y : ∀ t ∈ kiteE, t ∈ (kiteP 4).map norm := by decide +kernel
  exact ⟨z t, y t⟩
theorem kiteP_step {i : Nat} {p : Str × List Str} (h : kiteT[i]? = some p) : kiteP (i + 1) = kiteP i ++ p.2.map fun o => norm (p.1, o) := by
  unfold kiteP
  rw [List.take_add_one, h, List.flatMap_append]
  show _ ++ (_ ++ []) = _
  rw [List.append_nil]
theorem kiteP_len : ∀ i : Fin 5, (kiteP i.val).length ≤ 10 := by decide +kernel
theorem kite_len : ∀ p ∈ kiteT, p.2.length ≤ 3 := by decide +kernel
def kiteD (v1 v2 v3 v4 : Addr) : List (Key × V) := [(Sum.inr "a", .ref v1), (Sum.inr "b", .ref v2), (Sum.inr "c", .ref v3), (Sum.inr "d", .ref v4)]
theorem kite_nd (v1 v2 v3 v4 : Addr) : ((kiteD v1 v2 v3 v4).map (·.1)).Nodup := keys_nodup (ls := kiteK) (by decide +kernel)
section
variable {P : Program} {w : World} {K : PySem.W.Frag} {mg : Str → Option Value} {base : Heap}
theorem scLWri : FnScope NLx ["_law_way"] (defScope sLWri) := ⟨rfl, rfl, rfl, by decide +kernel, rfl, by decide +kernel, by decide +kernel⟩
theorem ok_lwri {f g l : Addr} {fd gd ld : FuncData} (F : Fun K "_law_written" "_law_written" sLWri f fd) (FT : Fun K "_law_tie" "_law_tie" sTie g gd) (gT : mg "_law_tie" = some (.ref g)) (GT : FnOk P w K mg base CX0 1 g gd ["_law_a", "_law_b"] spTie)
    (FL : Fun K "_law_plain" "_law_plain" sPlain l ld) (gL : mg "_law_plain" = some (.ref l)) (GL : FnOk P w K mg base CX0 2 l ld ["_law_places", "_law_ties"] spPlain) : FnOk P w K mg base CX0 3 f fd ["_law_way"] spLWri := by
  have nd := scLWri.nd
  have bT : Binds K gd ["_law_a", "_law_b"] [] := FT.binds fun _ _ _ _ _ _ us hl => match us, hl with | [_, _], _ => rfl
  have bL : Binds K ld ["_law_places", "_law_ties"] [] := FL.binds fun _ _ _ _ _ _ us hl => match us, hl with | [_, _], _ => rfl
  refine F.ok scLWri (fun vs H Q E h => ?_) (fun cdv A outer s H vs Q E hr h => ⟨_, (pss_cons (ps_if (pt_cmpR op_eq (pv 0) pe_int (nomark _)) (pss_one (ps_set (i := 1) nd rfl (Or.inl rfl) (pe_disp (pps_cons pe_str (pe_tup (pa_cons pe_str (pa_cons pe_str pa_nil))) (pps_cons pe_str (pe_tup (pa_cons pe_str (pa_cons pe_str pa_nil))) (pps_cons pe_str (pe_tup (pa_cons pe_str (pa_cons pe_str pa_nil))) pps_nil))) (by rfl) (by rfl) (fun z => by cases z) (by decide)))) (pss_one (ps_if (pt_cmpR op_eq (pv 0) pe_int (nomark _)) (pss_one (ps_set (i := 1) nd rfl (Or.inl rfl) (pe_disp (pps_cons pe_str (pe_tup (pa_cons pe_str (pa_cons pe_str pa_nil))) (pps_cons pe_str (pe_tup (pa_cons pe_str (pa_cons pe_str (pa_cons pe_str pa_nil)))) (pps_cons pe_str (pe_tup (pa_cons pe_str (pa_cons pe_str (pa_cons pe_str pa_nil)))) (pps_cons pe_str (pe_tup (pa_cons pe_str (pa_cons pe_str pa_nil))) pps_nil)))) (by rfl) (by rfl) (fun z => by cases z) (by decide)))) (pss_one (ps_if (pt_cmpR op_eq (pv 0) pe_int (nomark _)) (pss_one (ps_set (i := 1) nd rfl (Or.inl rfl) (pe_disp (pps_cons pe_str (pe_tup (pa_cons pe_str (pa_cons pe_str pa_nil))) (pps_cons pe_str (pe_tup (pa_cons pe_str (pa_cons pe_str (pa_cons pe_str pa_nil)))) (pps_cons pe_str (pe_tup (pa_cons pe_str (pa_cons pe_str (pa_cons pe_str pa_nil)))) (pps_cons pe_str (pe_tup (pa_cons pe_str (pa_cons pe_str pa_nil))) pps_nil)))) (by rfl) (by rfl) (fun z => by cases z) (by decide)))) (pss_one (ps_if (pt_cmpR op_eq (pv 0) pe_int (nomark _)) (pss_one (ps_set (i := 1) nd rfl (Or.inl rfl) (pe_disp (pps_cons pe_str (pe_tup (pa_cons pe_str (pa_cons pe_str (pa_cons pe_str pa_nil)))) (pps_cons pe_str (pe_tup (pa_cons pe_str (pa_cons pe_str (pa_cons pe_str pa_nil)))) (pps_cons pe_str (pe_tup (pa_cons pe_str (pa_cons pe_str (pa_cons pe_str pa_nil)))) (pps_cons pe_str (pe_tup (pa_cons pe_str (pa_cons pe_str (pa_cons pe_str pa_nil)))) pps_nil)))) (by rfl) (by rfl) (fun z => by cases z) (by decide)))) (pss_one (ps_if (pt_cmpR op_eq (pv 0) pe_int (nomark _)) (pss_cons (ps_set (i := 1) nd rfl (Or.inl rfl) (pe_disp (pps_cons pe_str (pe_tup (pa_cons pe_str (pa_cons pe_str (pa_cons pe_str pa_nil)))) (pps_cons pe_str (pe_tup (pa_cons pe_str (pa_cons pe_str (pa_cons pe_str pa_nil)))) (pps_cons pe_str (pe_tup (pa_cons pe_str (pa_cons pe_str (pa_cons pe_str pa_nil)))) (pps_cons pe_str (pe_tup (pa_cons pe_str (pa_cons pe_str (pa_cons pe_str pa_nil)))) pps_nil)))) (by rfl) (by rfl) (fun z => by cases z) (by decide)))
    (pss_one (ps_asg (pe_tup (pa_cons pe_str (pa_cons pe_str (pa_cons pe_str (pa_cons pe_str pa_nil))))) (pg_sub (pv 1) pe_str (L2.set_dict (units1 hr)))))) (pss_one (ps_set (i := 1) nd rfl (Or.inl rfl) (pe_disp (pps_cons pe_str (pe_tup (pa_cons pe_str pa_nil)) (pps_cons pe_str (pe_tup (pa_cons pe_str pa_nil)) pps_nil)) (by rfl) (by rfl) (fun z => by cases z) (by decide)))))))))))))
    (pss_cons (ps_set (i := 2) nd rfl (Or.inl rfl) (pe_lst pa_nil))
    (pss_cons (ps_lock (ps_for PassesOwn.never rfl (pi_keys (pv 1)) (pg_name (i := 3) nd rfl (Or.inr rfl)) (pss_one (ps_expr (pe_bm PySem.F.plainAttrs_list PySem.F.slot_list_extend PySem.F.type_list_extend mt_extend (pv 2) (pa_cons (pe_lc (own := [("_law_other", 4)]) (g := gName 4) (tt := tYes) (te := tCall spTie [] E0 (tCons (tVar 3) (tCons (tVar 4) tNil))) rfl nd (pi_tup (pe_dget (units1 hr) (pv 1) (pv 3) (fun _ _ => rfl))) (blkOk_by (own := [("_law_other", 4)]) (N := NLx) (sc := defScope sLWri) (by decide +kernel)) (fun _ _ _ _ _ => (pg_name (i := 4) nd rfl (Or.inl rfl))) (fun _ _ _ _ _ => pts_nil) (fun _ _ _ _ _ => (pe_call GT (hr.mono (by decide)) (by rfl) gT FT.kp bT .nil pass0 (pa_cons (pv 3) (pa_cons (pv 4) pa_nil))))) pa_nil))))))
    (pss_one (ps_ret (pe_tup (pa_cons (pe_call GL (hr.mono (by decide)) (by rfl) gL FL.kp bL .nil pass0 (pa_cons (pe_lst pa_nil) (pa_cons (pv 2) pa_nil))) (pa_cons (pv 1) pa_nil)))))))), ?_⟩)
  · obtain ⟨rfl, _⟩ := h
    rfl
  · obtain ⟨rfl, k⟩ := h
    rw [show L2.start NLx [V.int 1] = [some (.int 1), none, none, none, none] from rfl]
    walk_at "rd"
    refine ⟨rfl, _, rfl, ?_⟩
    refine Rd.iteF (by decide) ?_
    walk_at "rd"
    refine ⟨rfl, _, rfl, ?_⟩
    refine Rd.iteT (by decide) ?_
    walk_at "rd"
    unfold tDisp
    intro tb htb
    have e1 : Ex H (upd H tb (.dK [])) := Ex.new htb
    have b1 : (upd H tb (.dK [])) tb = some (.dK []) := upd_same
    generalize upd H tb (.dK []) = H1 at e1 b1 ⊢
    unfold tPairs
    walk_at "rd"
    refine ⟨small64 (n := 2) (by decide), fun v1 g1 => ?_⟩
    have e2 : Ex H1 (upd H1 v1 (.tup [.str "b", .str "c"])) := Ex.new g1
    have c1 : (upd H1 v1 (.tup [.str "b", .str "c"])) v1 = some (.tup [.str "b", .str "c"]) := upd_same
    generalize upd H1 v1 (.tup [.str "b", .str "c"]) = H2 at e2 c1 ⊢
    unfold tPairs
    walk_at "rd"
    refine ⟨small64 (n := 3) (by decide), fun v2 g2 => ?_⟩
    have e3 : Ex H2 (upd H2 v2 (.tup [.str "a", .str "c", .str "d"])) := Ex.new g2
    have c2 : (upd H2 v2 (.tup [.str "a", .str "c", .str "d"])) v2 = some (.tup [.str "a", .str "c", .str "d"]) := upd_same
    generalize upd H2 v2 (.tup [.str "a", .str "c", .str "d"]) = H3 at e3 c2 ⊢
    unfold tPairs
    walk_at "rd"
    refine ⟨small64 (n := 3) (by decide), fun v3 g3 => ?_⟩
    have e4 : Ex H3 (upd H3 v3 (.tup [.str "a", .str "d", .str "b"])) := Ex.new g3
    have c3 : (upd H3 v3 (.tup [.str "a", .str "d", .str "b"])) v3 = some (.tup [.str "a", .str "d", .str "b"]) := upd_same
    generalize upd H3 v3 (.tup [.str "a", .str "d", .str "b"]) = H4 at e4 c3 ⊢
    unfold tPairs
    walk_at "rd"
    refine ⟨small64 (n := 2) (by decide), fun v4 g4 => ?_⟩
    have e5 : Ex H4 (upd H4 v4 (.tup [.str "b", .str "c"])) := Ex.new g4
    have c4 : (upd H4 v4 (.tup [.str "b", .str "c"])) v4 = some (.tup [.str "b", .str "c"]) := upd_same
    generalize upd H4 v4 (.tup [.str "b", .str "c"]) = H5 at e5 c4 ⊢
    unfold tPairs
    refine ⟨(e2.trans (e3.trans (e4.trans e5))) _ _ b1, kiteD v1 v2 v3 v4, rfl, by show 4 ≤ 15; decide, ?_⟩
    rw [merge_nil (kvs := kiteD v1 v2 v3 v4) (kite_nd v1 v2 v3 v4)]
    have eZ : Ex H (upd H5 tb (.dK (kiteD v1 v2 v3 v4))) := (e1.trans (e2.trans (e3.trans (e4.trans e5)))).mut htb
    have zt : (upd H5 tb (.dK (kiteD v1 v2 v3 v4))) tb = some (.dK (kiteD v1 v2 v3 v4)) := upd_same
    have b5 := (e2.trans (e3.trans (e4.trans e5))) _ _ b1
    have vn : ∀ v xs, H5 v = some (.tup xs) → ∀ o, (upd H5 tb o) v = some (.tup xs) := fun v xs h o => (upd_ne (fun e => by rw [e, b5] at h; exact nomatch h)).trans h
    have prop : ∀ (i : Nat) (p : Str × List Str), kiteT[i]? = some p → ∃ v, (kiteD v1 v2 v3 v4)[i]? = some (Sum.inr p.1, .ref v) ∧ valV (kiteD v1 v2 v3 v4) (Sum.inr p.1) = some (.ref v) ∧ (upd H5 tb (.dK (kiteD v1 v2 v3 v4))) v = some (.tup (p.2.map V.str)) := by
      intro i p hp
      match i with
      | 0 => cases hp; exact ⟨v1, rfl, rfl, vn _ _ ((e3.trans (e4.trans e5)) _ _ c1) _⟩
      | 1 => cases hp; exact ⟨v2, rfl, rfl, vn _ _ ((e4.trans e5) _ _ c2) _⟩
      | 2 => cases hp; exact ⟨v3, rfl, rfl, vn _ _ (e5 _ _ c3) _⟩
      | 3 => cases hp; exact ⟨v4, rfl, rfl, vn _ _ c4 _⟩
      | n + 4 => exact nomatch hp
    have kl : (kiteD v1 v2 v3 v4).length = 4 := rfl
    generalize upd H5 tb (.dK (kiteD v1 v2 v3 v4)) = Z at eZ zt prop ⊢
    generalize (kiteD v1 v2 v3 v4) = kvs at zt prop kl
    clear vn b5 b1 c1 c2 c3 c4 e1 e2 e3 e4 e5 g1 g2 g3 g4
    walk_at "rd"
    refine ⟨Nat.zero_le _, fun G hG => ?_⟩
    have nG : G ≠ tb := fun e => by
      rw [e, zt] at hG
      exact nomatch hG
    dsimp only [List.set_cons_succ, List.set_cons_zero]
    walk_at "rd"
    dsimp only [List.set_cons_succ, List.set_cons_zero]
    unfold tLock
    refine ⟨tb, .dK kvs, (upd_ne nG.symm).trans zt, trivial, fun od => ?_⟩
    with_reducible refine Rd.for' ?_
    unfold iKeys
    walk_at "rd"
    refine ⟨tb, od, rfl, .inl ⟨kvs, upd_same, ?_⟩⟩
    have BX : Ex H (upd Z tb (.frz od (.dK kvs))) := eZ.mut htb
    have bt : (upd Z tb (.frz od (.dK kvs))) tb = some (.frz od (.dK kvs)) := upd_same
    have bG : (upd Z tb (.frz od (.dK kvs))) G = none := (upd_ne nG).trans hG
    have bp : ∀ (i : Nat) (p : Str × List Str), kiteT[i]? = some p → ∃ v, kvs[i]? = some (Sum.inr p.1, .ref v) ∧ valV kvs (Sum.inr p.1) = some (.ref v) ∧ (upd Z tb (.frz od (.dK kvs))) v = some (.tup (p.2.map V.str)) := fun i p hp => by
      obtain ⟨v, y1, y2, y3⟩ := prop i p hp
      exact ⟨v, y1, y2, (upd_ne (fun e => by rw [e, zt] at y3; exact nomatch y3)).trans y3⟩
    have e0 : Ex (upd Z tb (.frz od (.dK kvs))) (upd (upd Z G (.lst [])) tb (.frz od (.dK kvs))) := fun b o hb => by
      by_cases c : b = tb
      · rw [c] at hb ⊢
        rw [bt] at hb
        rw [upd_same]
        exact hb
      · rw [upd_ne c] at hb ⊢
        exact (Ex.new hG) _ _ hb
    have g0 : (upd (upd Z G (.lst [])) tb (.frz od (.dK kvs))) G = some (.lst (rf [])) := (upd_ne nG).trans upd_same
    generalize upd Z tb (.frz od (.dK kvs)) = B at BX bt bG bp e0
    generalize upd (upd Z G (.lst [])) tb (.frz od (.dK kvs)) = L0 at e0 g0 ⊢
    clear prop zt hG eZ Z
    refine for_it (walk_keys (d := tb) (o := od) (kvs := kvs)) (fun i σ H' => ∃ (x : Option V) (zs : TL), σ = [some (.int 1), some (.ref tb), some (.ref G), x, none] ∧ Ex B H' ∧ H' G = some (.lst (rf zs)) ∧ TA H' zs ∧ zs.map (·.2) = kiteP i) ⟨none, [], rfl, e0, g0, (fun _ h => nomatch h), rfl⟩ (fun i σ H' _ hP => ?_) (fun i z σ H3 H4 hi hP hY => ?_) (fun σ H3 hP => ?_)
    · obtain ⟨_, _, _, e3, _⟩ := hP
      exact e3 _ _ bt
    · obtain ⟨x, zs, rfl, e3, hz3, taz, pz⟩ := hP
      obtain ⟨rfl, kk, vv, hkv, rfl⟩ := hY
      rw [kl] at hi
      obtain ⟨p, hp⟩ : ∃ p, kiteT[i]? = some p := ⟨_, List.getElem?_eq_getElem hi⟩
      obtain ⟨v, y1, y2, y3⟩ := bp i p hp
      rw [y1] at hkv
      cases hkv
      have zlen : zs.length ≤ 10 := by
        have z := kiteP_len ⟨i, by omega⟩
        have y : (kiteP i).length ≤ 10 := z
        rw [← pz, List.length_map] at y
        exact y
      have plen := kite_len p (List.mem_of_getElem? hp)
      walk_at "rd"
      dsimp only [List.set_cons_succ, List.set_cons_zero]
      unfold tBM
      walk_at "rd"
      refine ⟨.inl ⟨rfl, _, SqL.of hz3⟩, ?_⟩
      walk_at "rd"
      refine Rd.lcm' (Rd.itup' ?_)
      unfold tDGet
      walk_at "rd"
      have g1 := dgetF (k := Sum.inr p.1) (e3 _ _ bt)
      rw [y2] at g1
      refine ⟨tb, _, rfl, g1, v, rfl, ⟨_, SqT.of (e3 _ _ y3)⟩, fun D hD => ?_⟩
      refine lc_it (walk_tup (xs := p.2.map V.str)) (fun j H' => Ex H4 H' ∧ ∃ ws : TL, H' D = some (.lst (rf ws)) ∧ TA H' ws ∧ ws.map (·.2) = (p.2.take j).map fun o => norm (p.1, o)) ⟨Ex.new hD, [], upd_same, (fun _ h => nomatch h), rfl⟩ (fun j H' _ hP => SqT.of (hP.1 _ _ (e3 _ _ y3))) (fun j z Ha Hb hj hP hY => ?_) (fun H6 hP => ?_)
      · obtain ⟨e6, ws, hw6, taw, mw⟩ := hP
        obtain ⟨rfl, hz⟩ := hY
        rw [List.getElem?_map] at hz
        cases ho : p.2[j]? with
        | none => rw [ho] at hz; exact nomatch hz
        | some o =>
          rw [ho] at hz
          cases hz
          have wl : ws.length ≤ 3 := by
            have z := congrArg List.length mw
            rw [List.length_map, List.length_map, List.length_take] at z
            omega
          show _ ∧ _
          refine ⟨rfl, ?_⟩
          unfold tYes
          show (if (true : Bool) = true then _ else _)
          rw [if_pos rfl]
          walk_at "rd"
          refine ⟨p.1, o, rfl, fun r H7 e7 hr7 hrn => ⟨rf ws, e7 _ _ hw6, sz_lt (by unfold rf; rw [List.length_map]; omega), (e6.trans e7).mut hD, ws ++ [(r, norm (p.1, o))], ?_, fun z hz => ?_, ?_⟩⟩
          · unfold rf
            rw [List.map_append]
            exact upd_same
          · have hDD := e7 _ _ hw6
            have key : H7 z.1 = some (.tup [V.str z.2.1, V.str z.2.2]) := by
              rcases List.mem_append.mp hz with y | y
              · exact e7 _ _ (taw z y)
              · rw [List.mem_singleton.mp y]
                exact hr7
            have ne : z.1 ≠ D := fun e => by
              rw [e, hDD] at key
              exact nomatch key
            exact (upd_ne ne).trans key
          · rw [List.map_append, mw, List.take_add_one, ho, List.map_append]
            rfl
      · obtain ⟨e6, ws, hw6, taw, mw⟩ := hP
        rw [List.length_map, List.take_length] at mw
        have wl : ws.length ≤ 3 := by
          have z := congrArg List.length mw
          rw [List.length_map, List.length_map] at z
          omega
        walk_at "rd"
        have g6 := e6 _ _ hz3
        refine ⟨G, D, rf zs, rf ws, rfl, rfl, g6, hw6, ?_, ?_⟩
        · unfold rf
          rw [List.length_map, List.length_map]
          exact Nat.le_of_lt (sz_lt (by omega))
        · walk_at "rd"
          refine ⟨_, zs ++ ws, rfl, (e3.trans e6).mut bG, ?_, fun z hz => ?_, ?_⟩
          · unfold rf
            rw [List.map_append]
            exact upd_same
          · have key : H6 z.1 = some (.tup [V.str z.2.1, V.str z.2.2]) := by
              rcases List.mem_append.mp hz with y | y
              · exact e6 _ _ (taz z y)
              · exact taw z y
            have ne : z.1 ≠ G := fun e => by
              rw [e, g6] at key
              exact nomatch key
            exact (upd_ne ne).trans key
          · rw [List.map_append, pz, mw, kiteP_step hp]
    · obtain ⟨x, zs, rfl, e3, hz3, taz, pz⟩ := hP
      rw [kl] at pz
      refine ⟨e3 _ _ bt, ?_⟩
      have E5 : Ex H (upd H3 tb (.dK kvs)) := (BX.trans e3).mut htb
      have G5 : (upd H3 tb (.dK kvs)) G = some (.lst (rf zs)) := (upd_ne nG).trans hz3
      have T5 : TA (upd H3 tb (.dK kvs)) zs := fun z hz => (upd_ne (fun e => by have y := taz z hz; rw [e, e3 _ _ bt] at y; exact nomatch y)).trans (taz z hz)
      have zl : zs.length ≤ 30 := by
        have z := kiteP_len ⟨4, by decide⟩
        have y : (kiteP 4).length ≤ 10 := z
        rw [← pz, List.length_map] at y
        omega
      generalize upd H3 tb (.dK kvs) = H7 at E5 G5 T5 ⊢
      walk_at "rd"
      refine ⟨Nat.zero_le _, fun bl hbl => ?_⟩
      walk_at "rd"
      refine ⟨bl, G, zs, rfl, upd_same, (Ex.new hbl) _ _ G5, T5.ex (Ex.new hbl), zl, fun d H8 ks ys e8 pl asc km tasc tm hdn => ?_⟩
      walk_at "rd"
      refine ⟨small64 (n := 2) (by decide), fun p hp => ?_⟩
      have ek : ks = kiteK := kite_keys asc (fun k => by rw [km k, pz])
      have E8 : Ex H H8 := E5.trans ((Ex.new hbl).trans e8)
      have dn : H d = none := none_ex (E5.trans (Ex.new hbl)) hdn
      rw [ek] at pl
      exact k p d tb _ ys (E8.trans (Ex.new hp)) upd_same (pl.ex (Ex.new hp)) (kite_ties tasc fun t => by rw [tm t, pz]) dn
end
end OwW


namespace OwW
open PySem PyProof.Rows L2 L2H OwX Rd Evl
abbrev sLaw : Stmt := top 68
abbrev NLaw : List Str := ["_law_script", "_law_spot", "_law_dice_here", "_law_turn", "_law_plain_here", "_law_debts_here", "_law_kite", "_law_some", "_law_told"]
/-- what the law calls -/
structure Cq (P : Program) (w : World) (K : PySem.W.Frag) (mg : Str → Option Value) (base : Heap) (CW CD : Addr) where
  dice : Cl P w K mg base 1 "_law_dice" ["_law_script", "_law_spot"] (spDice K)
  web : Cl P w K mg base 3 "_law_web" ["_law_dice_here", "_law_most", "_law_spare"] spLWeb
  debts : Cl P w K mg base 3 "_law_debts" ["_law_dice_here", "_law_plain_here", "_law_total"] spLDebts
  steps : ClG P w K mg base 10 "_law_steps_right" ["_law_dice_here", "_law_plain_here", "_law_debts_here"] spLSteps
  plans : ClG P w K mg base 10 "_law_plans_right" ["_law_dice_here", "_law_plain_here", "_law_debts_here"] spLPlans
  wri : Cl P w K mg base 3 "_law_written" ["_law_way"] spLWri
  lines : Pt P w K mg base 2 CD "lines" (spDLines CW CD)
  gi : Addr
  gid : FuncData
  mki : Mk K CD gi
  gD : mg "Debts" = some (.ref CD)
  ini : FnOk P w K mg base CX0 4 gi gid ["self", "web", "amounts"] (spDInit CW CD)
  bi : Binds K gid ["self", "web", "amounts"] []
  T : BltM mg
def spLaw (K : PySem.W.Frag) : Sp := fun vs H Q _ => ∃ (a : Addr) (ns : List Int), vs = [.ref a] ∧ SqL K H a (ns.map V.int) ∧ ∀ H', Q (.bl true) H'
theorem kite_ok : WebOk kiteK kiteE := by
  refine ⟨by decide +kernel, by decide, by decide, kite_asc, by decide +kernel, by decide, kite_tasc, fun k hk => ?_⟩
  have ra : Rch kiteE "a" "a" := .here
  have rb : Rch kiteE "a" "b" := .on ra (by decide +kernel)
  have rc : Rch kiteE "a" "c" := .on ra (by decide +kernel)
  have rd : Rch kiteE "a" "d" := .on rb (by decide +kernel)
  show Rch kiteE "a" k
  rcases List.mem_cons.mp hk with rfl | hk
  · exact ra
  rcases List.mem_cons.mp hk with rfl | hk
  · exact rb
  rcases List.mem_cons.mp hk with rfl | hk
  · exact rc
  rw [List.mem_singleton.mp hk]
  exact rd
def kiteA (k : Str) : Int := if k = "a" then 2 else if k = "b" then -1 else 0
theorem kite_am : amK kiteK kiteA = [((Sum.inr "a" : Key), V.int 2), (Sum.inr "b", .int (-1)), (Sum.inr "c", .int 0), (Sum.inr "d", .int 0)] := by
  have a : kiteA "a" = 2 := by decide +kernel
  have b : kiteA "b" = -1 := by decide +kernel
  have c : kiteA "c" = 0 := by decide +kernel
  have d : kiteA "d" = 0 := by decide +kernel
  show [((Sum.inr "a" : Key), V.int (kiteA "a")), (Sum.inr "b", .int (kiteA "b")), (Sum.inr "c", .int (kiteA "c")), (Sum.inr "d", .int (kiteA "d"))] = _
  rw [a, b, c, d]
theorem kite_few1 : ∀ k ∈ kiteK, FewF (lentF kiteE kiteA (oneF "a" 1) k) := by decide +kernel
theorem kite_few2 : ∀ k ∈ kiteK, FewF (lentF kiteE kiteA (setF ["a", "c"]) k) := by decide +kernel
theorem kite_few3 : ∀ k ∈ kiteK, FewF (movF kiteA "a" "d" 2 k) := by decide +kernel
theorem kite_lin1 : linesL kiteK (lentF kiteE kiteA (oneF "a" 1)) = ([("c has 1" : Str)] : List Str) := by decide +kernel
theorem kite_lin2 : linesL kiteK (lentF kiteE kiteA (setF ["a", "c"])) = ([("a has 1" : Str), ("b has 1" : Str), ("c owes 2" : Str), ("d has 1" : Str)] : List Str) := by decide +kernel
theorem kite_lin3 : linesL kiteK (movF kiteA "a" "d" 2) = ([("b owes 1" : Str), ("d has 2" : Str)] : List Str) := by decide +kernel
theorem kite_big : ∀ k ∈ kiteK, (kiteA k).natAbs < 10 ^ 60 := by decide +kernel
theorem sql_ex {K : PySem.W.Frag} {H H' : Hp} {a : Addr} {xs : List V} (e : Ex H H') (h : SqL K H a xs) : SqL K H' a xs := by
  rcases h with (h | ⟨o, h⟩) | h
  · exact Or.inl (Or.inl (e _ _ h))
  · exact Or.inl (Or.inr ⟨o, e _ _ h⟩)
  · exact Or.inr h
/-- what stood before the dice still stands -/
theorem past_dx {p : Addr} {H H1 H' : Hp} (hp : H p = none) (e : Ex H H1) (x : DX p H1 H') : Ex H H' := fun b u h => by
  have nb : b ≠ p := fun z => by rw [z, hp] at h; cases h
  exact wo_in p H' _ _ (x.ex _ _ (wo_of (e _ _ h) nb))
section
variable {P : Program} {w : World} {K : PySem.W.Frag} {mg : Str → Option Value} {base : Heap}
theorem scLaw : FnScope NLaw ["_law_script"] (defScope sLaw) := ⟨rfl, rfl, rfl, by decide +kernel, rfl, by decide +kernel, by decide +kernel⟩
theorem ok_law {f CW CD : Addr} {fd : FuncData} (F : Fun K "law" "law" sLaw f fd) (c : Cs P w K mg base CW CD) (c' : Cp P w K mg base CW CD) (q : Cq P w K mg base CW CD) : GFn P w K mg base (L2.CX P w) 11 f fd ["_law_script"] (spLaw K) := by
  have nd := scLaw.nd
  have DK := c.dk
  have T := q.T
  refine gfn_of F scLaw (fun vs H Q E h => ?_) (fun cdv A outer s H vs Q E hr hg h => ⟨_, (pss_cons (ps_for PassesOwn.leaving rfl (pi_range1 rfl T.range (pa_cons (pe_callB (call_max2 rfl) (by rfl) T.max (by decide +kernel) (pa_cons pe_int (pa_cons (pe_callB (call_min2 rfl) (by rfl) T.min (by decide +kernel) (pa_cons pe_int (pa_cons (pe_callB call_len_seq (by rfl) T.len (by decide +kernel) (pa_cons (pv 0) pa_nil)) pa_nil))) pa_nil))) pa_nil)) (pg_name (i := 1) nd rfl (Or.inl rfl)) (pss_cons (ps_set (i := 2) nd rfl (Or.inl rfl) (pe_call q.dice.ok (hr.mono (by decide)) (by rfl) q.dice.gl q.dice.kp q.dice.bd .nil pass0 (pa_cons (pv 0) (pa_cons (pv 1) pa_nil))))
    (pss_one (ps_for PassesOwn.leaving rfl (pi_range1 rfl T.range (pa_cons pe_int pa_nil)) (pg_name (i := 3) nd rfl (Or.inl rfl)) (pss_cons (ps_set (i := 4) nd rfl (Or.inl rfl) (pe_call q.web.ok (hr.mono (by decide)) (by rfl) q.web.gl q.web.kp q.web.bd .nil pass0 (pa_cons (pv 2) (pa_cons pe_int (pa_cons pe_int pa_nil)))))
    (pss_cons (ps_set (i := 5) nd rfl (Or.inl rfl) (pe_call q.debts.ok (hr.mono (by decide)) (by rfl) q.debts.gl q.debts.kp q.debts.bd .nil pass0 (pa_cons (pv 2) (pa_cons (pv 4) (pa_cons (pe_call c.num.ok (hr.mono (by decide)) (by rfl) c.num.gl c.num.kp c.num.bd .nil pass0 (pa_cons (pv 2) pa_nil)) pa_nil)))))
    (pss_one (ps_if ((pw_or (pt_not (pt_val (pe_callG q.steps.ok (hr.mono (by decide)) hg (by rfl) q.steps.gl q.steps.kp q.steps.bd (fun _ => never_at) (pa_cons (pv 2) (pa_cons (pv 4) (pa_cons (pv 5) pa_nil)))) (fun _ => rfl))) (pw_or1 (pt_not (pt_val (pe_callG q.plans.ok (hr.mono (by decide)) hg (by rfl) q.plans.gl q.plans.kp q.plans.bd (fun _ => never_at) (pa_cons (pv 2) (pa_cons (pv 4) (pa_cons (pv 5) pa_nil)))) (fun _ => rfl)))))).pt (pss_one (ps_ret pe_bl)) pss_nil))))))))
    (pss_cons (ps_set (i := 6) nd rfl (Or.inl rfl) (pe_ix ix_tup (pe_call q.wri.ok (hr.mono (by decide)) (by rfl) q.wri.gl q.wri.kp q.wri.bd .nil pass0 (pa_cons pe_int pa_nil)) pe_int (fun _ _ => rfl)))
    (pss_cons (ps_set (i := 7) nd rfl (Or.inl rfl) (pe_make q.mki q.ini (hr.mono (by decide)) (by rfl) q.gD q.bi .nil pass0 (pa_cons (pe_call c'.web.ok (hr.mono (by decide)) (by rfl) c'.web.gl c'.web.kp c'.web.bd .nil pass0 (pa_cons (pv 6) pa_nil)) (pa_cons (pe_disp (pps_cons pe_str pe_int (pps_cons pe_str (pe_op op_sub pe_int pe_int) (pps_cons pe_str pe_int (pps_cons pe_str pe_int pps_nil)))) (by rfl) (by rfl) (fun z => by cases z) (by decide)) pa_nil))))
    (pss_cons (ps_set (i := 8) nd rfl (Or.inl rfl) (pe_lst (pa_cons (pe_prop (pe_meth (pv 7) DK.cls c.mL.me c.mL.ok (hr.mono (by decide)) c.mL.bd c.mL.vd pass0 (pa_cons pe_str pa_nil)) DK.cls q.lines.po q.lines.ok (hr.mono (by decide)) q.lines.bd .nil pass0 rfl) (pa_cons (pe_prop (pe_meth (pv 7) DK.cls c.mT.me c.mT.ok (hr.mono (by decide)) c.mT.bd .nil pass0 (pa_cons (pe_tup (pa_cons pe_str (pa_cons pe_str pa_nil))) pa_nil)) DK.cls q.lines.po q.lines.ok (hr.mono (by decide)) q.lines.bd .nil pass0 rfl) (pa_cons (pe_prop (pe_methN (pv 7) DK.cls c.mM.me c.mM.ok (hr.mono (by decide)) c.mM.kb pass0 (pa_cons pe_str (pa_cons pe_str pa_nil)) (pk_cons pe_int pk_nil)) DK.cls q.lines.po q.lines.ok (hr.mono (by decide)) q.lines.bd .nil pass0 rfl) pa_nil)))))
    (pss_one (ps_ret (pe_cmpR (op_eqD hr.units) (pv 8) (pe_lst (pa_cons (pe_tup (pa_cons pe_str pa_nil)) (pa_cons (pe_tup (pa_cons pe_str (pa_cons pe_str (pa_cons pe_str (pa_cons pe_str pa_nil))))) (pa_cons (pe_tup (pa_cons pe_str (pa_cons pe_str pa_nil))) pa_nil)))) (nomark _)))))))), ?_⟩)
  · obtain ⟨a, ns, rfl, _⟩ := h
    rfl
  · obtain ⟨a, ns, rfl, hS, k⟩ := h
    rw [show L2.start NLaw [V.ref a] = [some (.ref a), none, none, none, none, none, none, none, none] from rfl]
    walk_at "rd"
    with_reducible refine Rd.for' (Rd.irng' ?_)
    walk_at "rd"
    refine ⟨_, _, rfl, Or.inl hS, ?_⟩
    walk_at "rd"
    refine ⟨_, _, rfl, ?_⟩
    walk_at "rd"
    refine ⟨_, _, rfl, ?_⟩
    walk_at "rd"
    generalize hj : (if (if (((ns.map V.int).length : Nat) : Int) < 2 then (((ns.map V.int).length : Nat) : Int) else 2) > 1 then (if (((ns.map V.int).length : Nat) : Int) < 2 then (((ns.map V.int).length : Nat) : Int) else 2) else 1) = j
    have hj2 : 1 ≤ j ∧ j ≤ 2 := by
      rw [← hj]
      split <;> split <;> omega
    refine ⟨j, rfl, by omega, by omega, ?_⟩
    refine for_it walk_range (fun i σ H' => (∃ t u v x y, σ = [some (.ref a), t, u, v, x, y, none, none, none]) ∧ Ex H H') ⟨⟨none, none, none, none, none, rfl⟩, Ex.refl _⟩ (fun _ _ _ _ _ => trivial) (fun i y σ H0 H0' hi hP hY => ?_) (fun σ H9 hP => ?_)
    · obtain ⟨⟨t, u, v, x, y', rfl⟩, e0⟩ := hP
      obtain ⟨rfl, rfl⟩ := hY
      walk_at "rd"
      dsimp only [List.set_cons_succ, List.set_cons_zero]
      refine ⟨a, _, ns, rfl, by omega, by omega, sql_ex e0 hS, fun p l s' np mp hdl => ?_⟩
      have e1 := Ex.new (o := dice l s' 0) np
      have hdp : HasDice (upd H0' p (dice l s' 0)) p := ⟨l, s', 0, hdl, upd_same⟩
      generalize upd H0' p (dice l s' 0) = H1 at e1 hdp ⊢
      walk_at "rd"
      with_reducible refine Rd.for' ?_
      refine Rd.irng' ?_
      walk_at "rd"
      refine ⟨2, rfl, by decide, by decide, ?_⟩
      refine for_it walk_range (fun i σ H' => (∃ t v x y, σ = [some (.ref a), t, some (.ref p), v, x, y, none, none, none]) ∧ DX p H1 H') ⟨⟨_, _, _, _, rfl⟩, DX.of (Ex.refl _) hdp⟩ (fun _ _ _ _ _ => trivial) (fun i2 y2 σ2 H2 H2' hi2 hP2 hY2 => ?_) (fun σ2 H8 hP2 => ?_)
      · obtain ⟨⟨t2, v2, x2, w2, rfl⟩, l2⟩ := hP2
        obtain ⟨rfl, rfl⟩ := hY2
        walk_at "rd"
        dsimp only [List.set_cons_succ, List.set_cons_zero]
        refine ⟨p, 6, 5, rfl, l2.at_, by decide, by decide, by decide, fun d H3 ks zs x3 pl ok hin dn => ?_⟩
        have l3 := l2.trans x3
        walk_at "rd"
        dsimp only [List.set_cons_succ, List.set_cons_zero]
        refine ⟨p, rfl, l3.at_, fun r H4 hr4 x4 => ?_⟩
        have l4 := l3.trans x4
        have pl4 := pl.ex x4.ex
        walk_at "rd"
        refine ⟨p, d, r, ks, zs, rfl, l4.at_, pl4, ok, hr4, fun m fm H5 x5 hf hm nm => ?_⟩
        have l5 := l4.trans x5
        have pl5 := pl4.ex x5.ex
        walk_at "rd"
        dsimp only [List.set_cons_succ, List.set_cons_zero]
        refine ⟨p, d, m, ks, zs, fm, rfl, l5.at_, pl5, ok, hm, hf, fun H6 x6 => ?_⟩
        have l6 := l5.trans x6
        walk_at "rd"
        refine ite2 (fun c => absurd c (by decide)) (fun _ => ?_)
        walk_at "rd"
        refine ⟨p, d, m, ks, zs, fm, rfl, l6.at_, pl5.ex x6.ex, ok, fun h => absurd (hin _ h) (by decide +kernel), x6.ex _ _ hm, hf, fun H7 x7 => ?_⟩
        walk_at "rd"
        refine ite2 (fun c => absurd c (by decide)) (fun _ => ?_)
        walk_at "rd"
        exact ⟨⟨_, _, _, _, rfl⟩, l6.trans x7⟩
      · obtain ⟨⟨t2, v2, x2, w2, rfl⟩, l2⟩ := hP2
        exact ⟨⟨_, _, _, _, _, rfl⟩, e0.trans (past_dx np e1 l2)⟩
    · obtain ⟨⟨t, u, v, x, y', rfl⟩, e0⟩ := hP
      walk_at "rd"
      refine ⟨rfl, fun q1 d tb H1 zs e1 hq1 pl hz dn => ?_⟩
      walk_at "rd"
      refine Rd.ixt (SqT.of hq1) rfl ?_
      walk_at "rd"
      dsimp only [List.set_cons_succ, List.set_cons_zero]
      walk_at "rd"
      unfold tMake
      walk_at "rd"
      have ok : WebOk kiteK (zs.map (·.2)) := by rw [hz]; exact kite_ok
      refine ⟨d, kiteK, zs, rfl, pl, ok, fun wv H2 e2 hw nw => ?_⟩
      walk_at "rd"
      unfold tDisp
      intro dd hdd
      unfold tPairs
      walk_at "rd"
      unfold tPairs
      walk_at "rd"
      unfold tPairs
      walk_at "rd"
      unfold tPairs
      refine ⟨upd_same, amK kiteK kiteA, by rw [kite_am]; rfl, by decide, ?_⟩
      rw [merge_amK (ks := kiteK) (by decide +kernel)]
      have e3 : Ex H2 (upd (upd H2 dd (.dK [])) dd (.dK (amK kiteK kiteA))) := (Ex.new hdd).mut hdd
      have d3 : (upd (upd H2 dd (.dK [])) dd (.dK (amK kiteK kiteA))) dd = some (.dK (amK kiteK kiteA)) := upd_same
      generalize upd (upd H2 dd (.dK [])) dd (.dK (amK kiteK kiteA)) = H3 at e3 d3 ⊢
      walk_at "rd"
      refine fun so dx hx hdx nx => ?_
      refine ⟨so, wv, dd, dx, kiteK, zs, kiteA, H3, rfl, hx, ((Ex.refl H3).mut hdx).mut hx, upd_same, hw.ex e3, amK_numsF d3 (by decide) kite_big, fun H4 e4 db => ⟨rfl, ?_⟩⟩
      walk_at "rd"
      dsimp only [List.set_cons_succ, List.set_cons_zero]
      walk_at "rd"
      obtain ⟨dxo, nn, o1, _⟩ := db.at_
      unfold tProp tMeth tMethN
      walk_at "rd"
      refine ⟨so, dxo, _, rfl, o1, rfl, ?_⟩
      walk_at "rd"
      refine ⟨so, wv, "a", 1, kiteK, zs, kiteA, rfl, db, by decide, by decide, fun r1 H5 e5 dr1 nr1 => ?_⟩
      rw [hz] at dr1
      obtain ⟨dx1, nn1, g1, _⟩ := dr1.at_
      refine ⟨r1, dx1, _, rfl, g1, r1, wv, kiteK, zs, _, rfl, dr1, kite_few1, fun p1 H6 e6 hp1 => ?_⟩
      rw [kite_lin1] at hp1
      walk_at "rd"
      have f46 : Ex H4 H6 := e5.trans e6
      refine ⟨so, dxo, _, rfl, f46 _ _ o1, rfl, ?_⟩
      walk_at "rd"
      refine ⟨small64 (n := 2) (by decide), fun tt htt => ?_⟩
      have e7 : Ex H6 (upd H6 tt (.tup [.str "a", .str "c"])) := Ex.new htt
      have t7 : (upd H6 tt (.tup [.str "a", .str "c"])) tt = some (.tup [.str "a", .str "c"]) := upd_same
      generalize upd H6 tt (.tup [.str "a", .str "c"]) = H7 at e7 t7 ⊢
      walk_at "rd"
      refine ⟨so, wv, tt, kiteK, ["a", "c"], zs, kiteA, rfl, db.ex (f46.trans e7), t7, by decide, by decide, by decide +kernel, fun r2 H8 e8 dr2 nr2 => ?_⟩
      rw [hz] at dr2
      obtain ⟨dx2, nn2, g2, _⟩ := dr2.at_
      refine ⟨r2, dx2, _, rfl, g2, r2, wv, kiteK, zs, _, rfl, dr2, kite_few2, fun p2 H9 e9 hp2 => ?_⟩
      rw [kite_lin2] at hp2
      walk_at "rd"
      have f49 : Ex H4 H9 := f46.trans (e7.trans (e8.trans e9))
      refine ⟨so, dxo, _, rfl, f49 _ _ o1, rfl, ?_⟩
      walk_at "rd"
      refine ⟨rfl, rfl, so, wv, "a", "d", 2, kiteK, zs, kiteA, rfl, db.ex f49, by decide, by decide, by decide, fun r3 H10 e10 dr3 nr3 => ?_⟩
      obtain ⟨dx3, nn3, g3, _⟩ := dr3.at_
      refine ⟨r3, dx3, _, rfl, g3, r3, wv, kiteK, zs, _, rfl, dr3, kite_few3, fun p3 H11 e11 hp3 => ?_⟩
      rw [kite_lin3] at hp3
      walk_at "rd"
      have k1 := (e7.trans (e8.trans (e9.trans (e10.trans e11)))) _ _ hp1
      have k2 := (e10.trans e11) _ _ hp2
      clear e5 e6 e7 e8 e9 e10 e11 f46 f49 dr1 dr2 dr3 g1 g2 g3 o1 db t7 hp1 hp2 d3 e3 hw pl
      refine ⟨small64 (n := 3) (by decide), fun tl htl => ?_⟩
      have e12 : Ex H11 (upd H11 tl (.lst [.ref p1, .ref p2, .ref p3])) := Ex.new htl
      have t12 : (upd H11 tl (.lst [.ref p1, .ref p2, .ref p3])) tl = some (.lst [.ref p1, .ref p2, .ref p3]) := upd_same
      generalize upd H11 tl (.lst [.ref p1, .ref p2, .ref p3]) = H12 at e12 t12 ⊢
      walk_at "rd"
      dsimp only [List.set_cons_succ, List.set_cons_zero]
      walk_at "rd"
      refine ⟨small64 (n := 1) (by decide), fun q2 h2 => ?_⟩
      have e13 : Ex H12 (upd H12 q2 (.tup [.str "c has 1"])) := Ex.new h2
      have t13 : (upd H12 q2 (.tup [.str "c has 1"])) q2 = some (.tup [.str "c has 1"]) := upd_same
      generalize upd H12 q2 (.tup [.str "c has 1"]) = H13 at e13 t13 ⊢
      walk_at "rd"
      refine ⟨small64 (n := 4) (by decide), fun q3 h3 => ?_⟩
      have e14 : Ex H13 (upd H13 q3 (.tup [.str "a has 1", .str "b has 1", .str "c owes 2", .str "d has 1"])) := Ex.new h3
      have t14 : (upd H13 q3 (.tup [.str "a has 1", .str "b has 1", .str "c owes 2", .str "d has 1"])) q3 = some (.tup [.str "a has 1", .str "b has 1", .str "c owes 2", .str "d has 1"]) := upd_same
      generalize upd H13 q3 (.tup [.str "a has 1", .str "b has 1", .str "c owes 2", .str "d has 1"]) = H14 at e14 t14 ⊢
      walk_at "rd"
      refine ⟨small64 (n := 2) (by decide), fun q4 h4 => ?_⟩
      have e15 : Ex H14 (upd H14 q4 (.tup [.str "b owes 1", .str "d has 2"])) := Ex.new h4
      have t15 : (upd H14 q4 (.tup [.str "b owes 1", .str "d has 2"])) q4 = some (.tup [.str "b owes 1", .str "d has 2"]) := upd_same
      generalize upd H14 q4 (.tup [.str "b owes 1", .str "d has 2"]) = H15 at e15 t15 ⊢
      walk_at "rd"
      refine ⟨small64 (n := 3) (by decide), fun q5 h5 => ?_⟩
      have e16 : Ex H15 (upd H15 q5 (.lst [.ref q2, .ref q3, .ref q4])) := Ex.new h5
      have t16 : (upd H15 q5 (.lst [.ref q2, .ref q3, .ref q4])) q5 = some (.lst [.ref q2, .ref q3, .ref q4]) := upd_same
      generalize upd H15 q5 (.lst [.ref q2, .ref q3, .ref q4]) = H16 at e16 t16 ⊢
      have f6 := e13.trans (e14.trans (e15.trans e16))
      have dL : Dp K H16 (.ref tl) (.list [.tuple (([("c has 1" : Str)] : List Str).map PyData.str), .tuple (([("a has 1" : Str), ("b has 1" : Str), ("c owes 2" : Str), ("d has 1" : Str)] : List Str).map PyData.str), .tuple (([("b owes 1" : Str), ("d has 2" : Str)] : List Str).map PyData.str)]) :=
        .lst (SqL.of (f6 _ _ t12)) (.cons (.tup (SqT.of ((e12.trans f6) _ _ k1)) (dp_strsT _)) (.cons (.tup (SqT.of ((e12.trans f6) _ _ k2)) (dp_strsT _)) (.cons (.tup (SqT.of ((e12.trans f6) _ _ hp3)) (dp_strsT _)) .nil)))
      have dR : Dp K H16 (.ref q5) (.list [.tuple (([("c has 1" : Str)] : List Str).map PyData.str), .tuple (([("a has 1" : Str), ("b has 1" : Str), ("c owes 2" : Str), ("d has 1" : Str)] : List Str).map PyData.str), .tuple (([("b owes 1" : Str), ("d has 2" : Str)] : List Str).map PyData.str)]) :=
        .lst (SqL.of t16) (.cons (.tup (SqT.of ((e14.trans (e15.trans e16)) _ _ t13)) (dp_strsT [("c has 1" : Str)])) (.cons (.tup (SqT.of ((e15.trans e16) _ _ t14)) (dp_strsT [("a has 1" : Str), ("b has 1" : Str), ("c owes 2" : Str), ("d has 1" : Str)])) (.cons (.tup (SqT.of (e16 _ _ t15)) (dp_strsT [("b owes 1" : Str), ("d has 2" : Str)])) .nil)))
      refine ⟨_, _, dL, dR, by decide +kernel, by decide +kernel, ?_⟩
      rw [show PyData.eqv (.list [.tuple (([("c has 1" : Str)] : List Str).map PyData.str), .tuple (([("a has 1" : Str), ("b has 1" : Str), ("c owes 2" : Str), ("d has 1" : Str)] : List Str).map PyData.str), .tuple (([("b owes 1" : Str), ("d has 2" : Str)] : List Str).map PyData.str)]) (.list [.tuple (([("c has 1" : Str)] : List Str).map PyData.str), .tuple (([("a has 1" : Str), ("b has 1" : Str), ("c owes 2" : Str), ("d has 1" : Str)] : List Str).map PyData.str), .tuple (([("b owes 1" : Str), ("d has 2" : Str)] : List Str).map PyData.str)]) = true by decide +kernel]
      exact k _
end
end OwW

/-! The law's own call, for a def that is called where no guard stands. -/
namespace OwX
open PySem PySem.Spec PyProof.Rows L2
/-- the one object that may be tracked at the start is the list that is handed in -/
def Sole (K : PySem.W.Frag) (H : Hp) (a : Addr) : Prop := ∀ b, H b = none ∨ (b = a ∧ K.lookup b = none ∧ ∃ ob xs, H b = some (.frz ob (.lst xs)))
section
variable {P : Program} {w : World} {K : PySem.W.Frag} {mg mb : Str → Option Value} {a fa : Addr} {s : Shared} {H : Hp} {us : List Value} {ns : List Int} {fd : FuncData} {k : Nat} {x : Str} {sp : Sp}
theorem sole_hid {b : Addr} {o : Obj} (z : Sole K H a) (g : s.heap.get? b = some o) (h : b = a → K.lookup b = none → False) : (hidT s.heap H).get? b = some o := by
  rcases z b with n | ⟨e, n, _⟩
  · exact hidT_get g n
  · exact (h e n).elim
theorem sole_ns {b : Addr} {m : Str → Option Value} (z : Sole K H a) (ga : s.heap.get? a = some { cls := .type "list", data := .seq us.toArray }) (n : s.heap.Ns b m) : (hidT s.heap H).Ns b m := by
  obtain ⟨o, es, ep, g, hd, rest⟩ := n
  refine ⟨o, es, ep, sole_hid z g fun e _ => ?_, hd, rest⟩
  rw [e, ga] at g
  cases g
  exact nomatch hd
theorem sole_env (z : Sole K H a) (KX : K.In s.heap) (ga : s.heap.get? a = some { cls := .type "list", data := .seq us.toArray }) (hm : s.heap.Ns mainGlobals mg) (hbn : s.heap.Ns builtinsNs mb) (hbt : ∀ y : Str, y ≠ "__name__" → mb y = bootBuiltins y) (hl : s.heap.NoLimit)
    (hg : s.gens = #[]) (ok : HOk P w H s.heap) : K.In (hidT s.heap H) ∧ (hidT s.heap H).Ns mainGlobals mg ∧ Env0 P w K mg (hidT s.heap H) callerA [] s H := by
  have k1 : K.In (hidT s.heap H) := fun b o e => sole_hid z (KX b o e) fun _ n => by rw [n] at e; cases e
  have k2 := sole_ns z ga hm
  obtain ⟨mc, l1, l2⟩ := hl
  exact ⟨k1, k2, { frames := rfl, mod := ⟨k1, k2, ⟨mb, sole_ns z ga hbn, hbt⟩, ⟨mc, sole_ns z ga l1, l2⟩⟩, bs := fun _ _ e => of_hidT e, bsz := Nat.le_of_eq (hidT_size _ _), funs := trivial, frf := (fun _ hb => nomatch hb), hok := ok, bare := AllBare.of_eq hg }⟩
/-- the object at a, tracked or the module's own -/
theorem sole_at (ga : s.heap.get? a = some { cls := .type "list", data := .seq us.toArray }) (KX : K.In s.heap) (hi : IntsAre us ns) (hz : ns.length ≤ sizeLine) : ∃ H, Sole K H a ∧ SqL K H a (ns.map V.int) ∧ HOk P w H s.heap := by
  have rv := vals_ints hi
  have lz := hi.length
  cases hk : K.lookup a with
  | some o =>
    have g := KX a o hk
    rw [ga] at g
    cases g
    refine ⟨fun _ => none, fun _ => Or.inl rfl, Or.inr ⟨_, us.toArray, _, hk, rfl, rfl, rfl, ?_, ?_⟩, fun _ _ e => nomatch e⟩
    · rw [List.size_toArray]
      omega
    · rw [List.toList_toArray]
      exact rv
  | none =>
    refine ⟨upd (fun _ => none) a (.frz { cls := .type "list", data := .seq us.toArray } (.lst (ns.map V.int))), fun b => ?_, Or.inl (Or.inr ⟨_, upd_same⟩), fun b u e => ?_⟩
    · by_cases h : b = a
      · subst h
        exact Or.inr ⟨rfl, hk, _, _, upd_same⟩
      · exact Or.inl (upd_ne h)
    · by_cases h : b = a
      · subst h
        rw [upd_same] at e
        cases e
        exact ⟨ga, by rw [List.length_map]; exact hz, us, _, rv, ga⟩
      · rw [upd_ne h] at e
        cases e
/-- the law's def answers True, and what stood before still stands -/
theorem law_callG (KX : K.In s.heap) (hm : s.heap.Ns mainGlobals mg) (hbn : s.heap.Ns builtinsNs mb) (hbt : ∀ y : Str, y ≠ "__name__" → mb y = bootBuiltins y) (hl : s.heap.NoLimit) (hg : s.gens = #[]) (ga : s.heap.get? a = some { cls := .type "list", data := .seq us.toArray })
    (hi : IntsAre us ns) (hz : ns.length ≤ sizeLine) (hr : Room k callerA) (F : ∀ base : Heap, K.In base → base.Ns mainGlobals mg → GFn P w K mg base (L2.CX P w) k fa fd [x] sp) (hb : ∀ (s : Shared) (u : Value), BindsTo s fd ⟨[u], []⟩ [(x, u)])
    (hs : ∀ H : Hp, SqL K H a (ns.map V.int) → sp [.ref a] H (fun v _ => v = .bl true) fun _ _ _ => False) :
    codeAny (model P w) callerA (.call (.ref fa) ⟨[.ref a], []⟩) (fun r s' => r = .ok (.ret (.bool true)) ∧ OldK s.heap s'.heap ∧ s'.os = s.os ∧ AllBare s'.gens) s := by
  obtain ⟨H, z, sq, ok⟩ := sole_at (P := P) (w := w) ga KX hi hz
  obtain ⟨k1, k2, e0⟩ := sole_env z KX ga hm hbn hbt hl hg ok
  refine codeAny_mono ((F _ k1 k2).run callerA [] s H ⟨[.ref a], []⟩ [.ref a] [.ref a] _ _ hr rfl e0 (hb s (.ref a)) (.cons rfl .nil) (hs H sq)) fun r s' h => ?_
  rcases r with e | fl
  · obtain ⟨_, _, _, _, _, _, _, _, _, _, _, _, no⟩ := (show L2.CX P w [] H s (fun _ _ _ => False) e s' from h)
    exact no.elim
  rcases fl with _ | _ | _ | u
  · exact h.elim
  · exact h.elim
  · exact h.elim
  obtain ⟨v, H', ho, hbare, un, ok', rv, q⟩ := h
  have q2 : v = .bl true := q
  subst q2
  cases (show u = Value.bool true from rv)
  refine ⟨rfl, OldK.of_keep fun b o g => ?_, ho, hbare⟩
  rcases z b with n | ⟨_, _, ob, xs, n⟩
  · exact un.keep b o g n (fun m => nomatch m) (by simp)
  · have t1 := (show ObjOk P w H s.heap b (.frz ob (.lst xs)) from ok b _ n).1
    have t2 := (show ObjOk P w H' s'.heap b (.frz ob (.lst xs)) from ok' b _ (un.frzs b ob _ n)).1
    rw [g] at t1
    cases t1
    exact t2
/-- the goal that is left of a law's row -/
theorem walk_ofG {l : PySem.W.OpenLaw} {n : Nat} {q : Program} {loose : List Str} {XP : (Str → Option Value) → Heap → Prop} {YP : World → Heap → Prop} {d : DefRec} {KK : Params → PySem.W.Frag} {spK : PySem.W.Frag → Sp} (hn : l.most = some n) (hn2 : n ≤ sizeLine) (hdf : d.params.defaults = []) (hr : Room k callerA)
    (hY : ∀ (w : World) (h : Heap), YP w h → (KK w.params).In h)
    (F : ∀ (w : World) (mg : Str → Option Value) (fa : Addr) (h : Heap), (KK w.params).In h → h.Ns mainGlobals mg → mg d.name = some (.ref fa) →
      ∃ fd : FuncData, (∀ (s : Shared) (u : Value), BindsTo s fd ⟨[u], []⟩ [(x, u)]) ∧ ∀ base : Heap, (KK w.params).In base → base.Ns mainGlobals mg → GFn l.prog w (KK w.params) mg base (L2.CX l.prog w) k fa fd [x] (spK (KK w.params)))
    (hs : ∀ (K : PySem.W.Frag) (H : Hp) (a : Addr) (ns : List Int), SqL K H a (ns.map V.int) → spK K [.ref a] H (fun v _ => v = .bl true) fun _ _ _ => False) : PySem.W.WalkO q loose XP YP l.row.toRowW d [] (fun f vs => PySem.call f vs) := by
  refine Att.attach_call hn hdf fun w _ s1 mg mb fa _ _ _ _ a us ns G Y _ _ _ hmg ga hi hlen hg => ?_
  have KX := hY w _ Y
  obtain ⟨fd, hb, GF⟩ := F w mg fa _ KX G.T.g hmg
  exact law_callG KX G.T.g G.T.b G.T.builtins G.T.nolimit hg ga hi (Nat.le_trans hlen hn2) hr GF hb fun H sq => hs _ H a ns sq
end
end OwX

namespace OwW
open PySem PyProof.Rows L2 L2H OwX Rd Evl
def clsB (K : PySem.W.Frag) (CW CD f16 p23 f25 f27 f30 p32 p33 f39 f41 f42 f43 f44 p45 p62 : Addr) : Bool :=
  PySem.W.plainGet K CW Str.empty && (PySem.W.hasDictIn K CW && (PySem.W.plainOver K CW && (decide (PySem.W.findIn K (.ref CW) "__setattr__" = some (some (.builtin "object.__setattr__"))) && (PySem.W.makesIn K CW && (PySem.W.keepIn K (.ref CW) && (decide (PySem.W.findIn K (.ref CW) "__class__" = some (some (.builtin "object.__class__"))) && (decide (PySem.W.mroIn K CW (.type "object") = some true) && (decide (PySem.W.kitOne K (.ref CW) (.ref CW) = some true) && (decide (PySem.W.findIn K (.ref CW) "__ne__" = some (some (.builtin "object.__ne__"))) && (decide (PySem.W.subIn K (.ref CW) (.type "object") = some true) && (PySem.W.plainGet K CD Str.empty && (PySem.W.hasDictIn K CD && (PySem.W.plainOver K CD && (decide (PySem.W.findIn K (.ref CD) "__setattr__" = some (some (.builtin "object.__setattr__"))) && (PySem.W.makesIn K CD && (PySem.W.keepIn K (.ref CD) && (decide (PySem.W.findIn K (.ref CD) "__class__" = some (some (.builtin "object.__class__"))) && (decide (PySem.W.mroIn K CD (.type "object") = some true) && (decide (PySem.W.kitOne K (.ref CD) (.ref CD) = some true) && (decide (PySem.W.findIn K (.ref CD) "__ne__" = some (some (.builtin "object.__ne__"))) && (decide (PySem.W.subIn K (.ref CD) (.type "object") = some true) && (decide (PySem.W.findIn K (.ref CW) "_places" = some none) && (decide (PySem.W.findIn K (.ref CW) "_ties" = some none) && (decide (PySem.W.findIn K (.ref CW) "_near" = some none) && (decide (PySem.W.findIn K (.ref CD) "_web" = some none) && (decide (PySem.W.findIn K (.ref CD) "_amounts" = some none) && (decide (PySem.W.specialIn K (.builtin "object.__class__") "__get__" = some (some (.builtin "getset_descriptor.__get__"))) && (decide (PySem.W.takesIn K (.builtin "object.__class__") = some true) && (decide (PySem.W.kitOne K (.ref CD) (.type "dict") = some false) && (PySem.W.isFn K (.ref f16) && (decide (PySem.W.specialIn K (.ref p23) "__get__" = some (some (.builtin "property.__get__"))) && (decide (PySem.W.takesIn K (.ref p23) = some true) && (PySem.W.isFn K (.ref f25) && (PySem.W.isFn K (.ref f27) && (PySem.W.isFn K (.ref f30) && (decide (PySem.W.specialIn K (.ref p32) "__get__" = some (some (.builtin "property.__get__"))) && (decide (PySem.W.takesIn K (.ref p32) = some true) && (decide (PySem.W.specialIn K (.ref p33) "__get__" = some (some (.builtin "property.__get__"))) && (decide (PySem.W.takesIn K (.ref p33) = some true) && (PySem.W.isFn K (.ref f39) && (PySem.W.isFn K (.ref f41) && (PySem.W.isFn K (.ref f42) && (PySem.W.isFn K (.ref f43) && (PySem.W.isFn K (.ref f44) && (decide (PySem.W.specialIn K (.ref p45) "__get__" = some (some (.builtin "property.__get__"))) && (decide (PySem.W.takesIn K (.ref p45) = some true) && (decide (PySem.W.specialIn K (.ref p62) "__get__" = some (some (.builtin "property.__get__"))) && (decide (PySem.W.takesIn K (.ref p62) = some true)))))))))))))))))))))))))))))))))))))))))))))))))
theorem all_mk {l : PySem.W.OpenLaw} {w : World} {K : PySem.W.Frag} {h : Heap} {mg : Str → Option Value} {fa CW CD f1 f2 f3 f4 f5 f6 f7 f8 f9 f10 f11 f12 f13 f14 f15 f16 f17 f18 f19 f20 f21 f22 f23 f24 f25 f26 f27 f28 f29 f30 f31 f32 f33 f34 f35 f36 f37 f38 f39 f40 f41 f42 f43 f44 f45 f46 f47 f48 f49 f50 f51 f52 f53 f54 f55 f56 f57 f58 f59 f60 f61 f62 f63 f64 p33 p62 p45 p32 p23 kd39 kd42 : Addr} {fod1 fan1 fod2 fan2 fod3 fan3 fod4 fan4 fod5 fan5 fod6 fan6 fod7 fan7 fod8 fan8 fod9 fan9 fod10 fan10 fod11 fan11 fod12 fan12 fod13 fan13 fod14 fan14 fod15 fan15 fod16 fan16 fod17 fan17 fod18 fan18 fod19 fan19 fod20 fan20 fod21 fan21 fod22 fan22 fod23 fan23 fod24 fan24 fod25 fan25 fod26 fan26 fod27 fan27 fod28 fan28 fod29 fan29 fod30 fan30 fod31 fan31 fod32 fan32 fod33 fan33 fod34 fan34 fod35 fan35 fod36 fan36 fod37 fan37 fod38 fan38 fod39 fan39 fod40 fan40 fod41 fan41 fod42 fan42 fod43 fan43 fod44 fan44 fod45 fan45 fod46 fan46 fod47 fan47 fod48 fan48 fod49 fan49 fod50 fan50 fod51 fan51 fod52 fan52 fod53 fan53 fod54 fan54 fod55 fan55 fod56 fan56 fod57 fan57 fod58 fan58 fod59 fan59 fod60 fan60 fod61 fan61 fod62 fan62 fod63 fan63 fod64 fan64 : Option Addr} {fsl1 fsl2 fsl3 fsl4 fsl5 fsl6 fsl7 fsl8 fsl9 fsl10 fsl11 fsl12 fsl13 fsl14 fsl15 fsl16 fsl17 fsl18 fsl19 fsl20 fsl21 fsl22 fsl23 fsl24 fsl25 fsl26 fsl27 fsl28 fsl29 fsl30 fsl31 fsl32 fsl33 fsl34 fsl35 fsl36 fsl37 fsl38 fsl39 fsl40 fsl41 fsl42 fsl43 fsl44 fsl45 fsl46 fsl47 fsl48 fsl49 fsl50 fsl51 fsl52 fsl53 fsl54 fsl55 fsl56 fsl57 fsl58 fsl59 fsl60 fsl61 fsl62 fsl63 fsl64 : Array (Option Value)} {foc1 fdc1 fpm1 fct1 fcd1 foc2 fdc2 fpm2 fct2 fcd2 foc3 fdc3 fpm3 fct3 fcd3 foc4 fdc4 fpm4 fct4 fcd4 foc5 fdc5 fpm5 fct5 fcd5 foc6 fdc6 fpm6 fct6 fcd6 foc7 fdc7 fpm7 fct7 fcd7 foc8 fdc8 fpm8 fct8 fcd8 foc9 fdc9 fpm9 fct9 fcd9 foc10 fdc10 fpm10 fct10 fcd10 foc11 fdc11 fpm11 fct11 fcd11 foc12 fdc12 fpm12 fct12 fcd12 foc13 fdc13 fpm13 fct13 fcd13 foc14 fdc14 fpm14 fct14 fcd14 foc15 fdc15 fpm15 fct15 fcd15 foc16 fdc16 fpm16 fct16 fcd16 foc17 fdc17 fpm17 fct17 fcd17 foc18 fdc18 fpm18 fct18 fcd18 foc19 fdc19 fpm19 fct19 fcd19 foc20 fdc20 fpm20 fct20 fcd20 foc21 fdc21 fpm21 fct21 fcd21 foc22 fdc22 fpm22 fct22 fcd22 foc23 fdc23 fpm23 fct23 fcd23 foc24 fdc24 fpm24 fct24 fcd24 foc25 fdc25 fpm25 fct25 fcd25 foc26 fdc26 fpm26 fct26 fcd26 foc27 fdc27 fpm27 fct27 fcd27 foc28 fdc28 fpm28 fct28 fcd28 foc29 fdc29 fpm29 fct29 fcd29 foc30 fdc30 fpm30 fct30 fcd30 foc31 fdc31 fpm31 fct31 fcd31 foc32 fdc32 fpm32 fct32 fcd32 foc33 fdc33 fpm33 fct33 fcd33 foc34 fdc34 fpm34 fct34 fcd34 foc35 fdc35 fpm35 fct35 fcd35 foc36 fdc36 fpm36 fct36 fcd36 foc37 fdc37 fpm37 fct37 fcd37 foc38 fdc38 fpm38 fct38 fcd38 foc39 fdc39 fpm39 fct39 fcd39 foc40 fdc40 fpm40 fct40 fcd40 foc41 fdc41 fpm41 fct41 fcd41 foc42 fdc42 fpm42 fct42 fcd42 foc43 fdc43 fpm43 fct43 fcd43 foc44 fdc44 fpm44 fct44 fcd44 foc45 fdc45 fpm45 fct45 fcd45 foc46 fdc46 fpm46 fct46 fcd46 foc47 fdc47 fpm47 fct47 fcd47 foc48 fdc48 fpm48 fct48 fcd48 foc49 fdc49 fpm49 fct49 fcd49 foc50 fdc50 fpm50 fct50 fcd50 foc51 fdc51 fpm51 fct51 fcd51 foc52 fdc52 fpm52 fct52 fcd52 foc53 fdc53 fpm53 fct53 fcd53 foc54 fdc54 fpm54 fct54 fcd54 foc55 fdc55 fpm55 fct55 fcd55 foc56 fdc56 fpm56 fct56 fcd56 foc57 fdc57 fpm57 fct57 fcd57 foc58 fdc58 fpm58 fct58 fcd58 foc59 fdc59 fpm59 fct59 fcd59 foc60 fdc60 fpm60 fct60 fcd60 foc61 fdc61 fpm61 fct61 fcd61 foc62 fdc62 fpm62 fct62 fcd62 foc63 fdc63 fpm63 fct63 fcd63 foc64 fdc64 fpm64 fct64 fcd64 fkv1 fkv2 fkv3 fkv4 fkv5 fkv6 fkv7 fkv8 fkv9 fkv10 fkv11 fkv12 fkv13 fkv14 fkv15 fkv16 fkv17 fkv18 fkv19 fkv20 fkv21 fkv22 fkv23 fkv24 fkv25 fkv26 fkv27 fkv28 fkv29 fkv30 fkv31 fkv32 fkv33 fkv34 fkv35 fkv36 fkv37 fkv38 fkv40 fkv41 fkv43 fkv44 fkv45 fkv46 fkv47 fkv48 fkv49 fkv50 fkv51 fkv52 fkv53 fkv54 fkv55 fkv56 fkv57 fkv58 fkv59 fkv60 fkv61 fkv62 fkv63 fkv64 : Value} {r33 r62 r45 r32 r23 : List Value} {mt0 mt1 mt2 kt39 kt42 : Tok} (X : K.In h) (G : h.Ns mainGlobals mg) (hfa : mg "law" = some (.ref fa))
    (aW : PySem.W.nsIn K mainGlobals "Web" = some (some (.ref CW)))
    (aD : PySem.W.nsIn K mainGlobals "Debts" = some (some (.ref CD)))
    (ga1 : PySem.W.nsIn K mainGlobals "_law_roll" = some (some (.ref f1)))
    (gl1 : K.lookup f1 = some ⟨foc1, fod1, .func (PySem.W.fnOf "_law_roll" "_law_roll" (defArgs sRoll) (defBody sRoll) (defScope sRoll) .none fkv1 fdc1 fpm1 fan1 fcd1 fct1), fsl1⟩)
    (gc1 : PySem.W.codeIn K fcd1 "_law_roll" = true)
    (gk1 : PySem.W.keepIn K (.ref f1) = true)
    (ga2 : PySem.W.nsIn K mainGlobals "_law_pick" = some (some (.ref f2)))
    (gl2 : K.lookup f2 = some ⟨foc2, fod2, .func (PySem.W.fnOf "_law_pick" "_law_pick" (defArgs sPick) (defBody sPick) (defScope sPick) .none fkv2 fdc2 fpm2 fan2 fcd2 fct2), fsl2⟩)
    (gc2 : PySem.W.codeIn K fcd2 "_law_pick" = true)
    (gk2 : PySem.W.keepIn K (.ref f2) = true)
    (ga3 : PySem.W.nsIn K mainGlobals "_law_dice" = some (some (.ref f3)))
    (gl3 : K.lookup f3 = some ⟨foc3, fod3, .func (PySem.W.fnOf "_law_dice" "_law_dice" (defArgs sDice) (defBody sDice) (defScope sDice) .none fkv3 fdc3 fpm3 fan3 fcd3 fct3), fsl3⟩)
    (gc3 : PySem.W.codeIn K fcd3 "_law_dice" = true)
    (gk3 : PySem.W.keepIn K (.ref f3) = true)
    (ga4 : PySem.W.nsIn K mainGlobals "is_integer" = some (some (.ref f4)))
    (gl4 : K.lookup f4 = some ⟨foc4, fod4, .func (PySem.W.fnOf "is_integer" "is_integer" (defArgs sInteger) (defBody sInteger) (defScope sInteger) .none fkv4 fdc4 fpm4 fan4 fcd4 fct4), fsl4⟩)
    (gc4 : PySem.W.codeIn K fcd4 "is_integer" = true)
    (gk4 : PySem.W.keepIn K (.ref f4) = true)
    (ga5 : PySem.W.nsIn K mainGlobals "_is_whole" = some (some (.ref f5)))
    (gl5 : K.lookup f5 = some ⟨foc5, fod5, .func (PySem.W.fnOf "_is_whole" "_is_whole" (defArgs sWhole) (defBody sWhole) (defScope sWhole) .none fkv5 fdc5 fpm5 fan5 fcd5 fct5), fsl5⟩)
    (gc5 : PySem.W.codeIn K fcd5 "_is_whole" = true)
    (gk5 : PySem.W.keepIn K (.ref f5) = true)
    (ga6 : PySem.W.nsIn K mainGlobals "is_name" = some (some (.ref f6)))
    (gl6 : K.lookup f6 = some ⟨foc6, fod6, .func (PySem.W.fnOf "is_name" "is_name" (defArgs sName) (defBody sName) (defScope sName) .none fkv6 fdc6 fpm6 fan6 fcd6 fct6), fsl6⟩)
    (gc6 : PySem.W.codeIn K fcd6 "is_name" = true)
    (gk6 : PySem.W.keepIn K (.ref f6) = true)
    (ga7 : PySem.W.nsIn K mainGlobals "are_names" = some (some (.ref f7)))
    (gl7 : K.lookup f7 = some ⟨foc7, fod7, .func (PySem.W.fnOf "are_names" "are_names" (defArgs sNames) (defBody sNames) (defScope sNames) .none fkv7 fdc7 fpm7 fan7 fcd7 fct7), fsl7⟩)
    (gc7 : PySem.W.codeIn K fcd7 "are_names" = true)
    (gk7 : PySem.W.keepIn K (.ref f7) = true)
    (ga8 : PySem.W.nsIn K mainGlobals "_law_mixed" = some (some (.ref f8)))
    (gl8 : K.lookup f8 = some ⟨foc8, fod8, .func (PySem.W.fnOf "_law_mixed" "_law_mixed" (defArgs sMixed) (defBody sMixed) (defScope sMixed) .none fkv8 fdc8 fpm8 fan8 fcd8 fct8), fsl8⟩)
    (gc8 : PySem.W.codeIn K fcd8 "_law_mixed" = true)
    (gk8 : PySem.W.keepIn K (.ref f8) = true)
    (ga9 : PySem.W.nsIn K mainGlobals "is_tie" = some (some (.ref f9)))
    (gl9 : K.lookup f9 = some ⟨foc9, fod9, .func (PySem.W.fnOf "is_tie" "is_tie" (defArgs sIsTie) (defBody sIsTie) (defScope sIsTie) .none fkv9 fdc9 fpm9 fan9 fcd9 fct9), fsl9⟩)
    (gc9 : PySem.W.codeIn K fcd9 "is_tie" = true)
    (gk9 : PySem.W.keepIn K (.ref f9) = true)
    (ga10 : PySem.W.nsIn K mainGlobals "ascends" = some (some (.ref f10)))
    (gl10 : K.lookup f10 = some ⟨foc10, fod10, .func (PySem.W.fnOf "ascends" "ascends" (defArgs sAsc) (defBody sAsc) (defScope sAsc) .none fkv10 fdc10 fpm10 fan10 fcd10 fct10), fsl10⟩)
    (gc10 : PySem.W.codeIn K fcd10 "ascends" = true)
    (gk10 : PySem.W.keepIn K (.ref f10) = true)
    (ga11 : PySem.W.nsIn K mainGlobals "_ends_off" = some (some (.ref f11)))
    (gl11 : K.lookup f11 = some ⟨foc11, fod11, .func (PySem.W.fnOf "_ends_off" "_ends_off" (defArgs sEnds) (defBody sEnds) (defScope sEnds) .none fkv11 fdc11 fpm11 fan11 fcd11 fct11), fsl11⟩)
    (gc11 : PySem.W.codeIn K fcd11 "_ends_off" = true)
    (gk11 : PySem.W.keepIn K (.ref f11) = true)
    (ga12 : PySem.W.nsIn K mainGlobals "reached_along" = some (some (.ref f12)))
    (gl12 : K.lookup f12 = some ⟨foc12, fod12, .func (PySem.W.fnOf "reached_along" "reached_along" (defArgs sReach) (defBody sReach) (defScope sReach) .none fkv12 fdc12 fpm12 fan12 fcd12 fct12), fsl12⟩)
    (gc12 : PySem.W.codeIn K fcd12 "reached_along" = true)
    (gk12 : PySem.W.keepIn K (.ref f12) = true)
    (ga13 : PySem.W.nsIn K mainGlobals "_are_places" = some (some (.ref f13)))
    (gl13 : K.lookup f13 = some ⟨foc13, fod13, .func (PySem.W.fnOf "_are_places" "_are_places" (defArgs sPlaces) (defBody sPlaces) (defScope sPlaces) .none fkv13 fdc13 fpm13 fan13 fcd13 fct13), fsl13⟩)
    (gc13 : PySem.W.codeIn K fcd13 "_are_places" = true)
    (gk13 : PySem.W.keepIn K (.ref f13) = true)
    (ga14 : PySem.W.nsIn K mainGlobals "_are_ties" = some (some (.ref f14)))
    (gl14 : K.lookup f14 = some ⟨foc14, fod14, .func (PySem.W.fnOf "_are_ties" "_are_ties" (defArgs sTies) (defBody sTies) (defScope sTies) .none fkv14 fdc14 fpm14 fan14 fcd14 fct14), fsl14⟩)
    (gc14 : PySem.W.codeIn K fcd14 "_are_ties" = true)
    (gk14 : PySem.W.keepIn K (.ref f14) = true)
    (ga15 : PySem.W.nsIn K mainGlobals "_is_web" = some (some (.ref f15)))
    (gl15 : K.lookup f15 = some ⟨foc15, fod15, .func (PySem.W.fnOf "_is_web" "_is_web" (defArgs sIsWeb) (defBody sIsWeb) (defScope sIsWeb) .none fkv15 fdc15 fpm15 fan15 fcd15 fct15), fsl15⟩)
    (gc15 : PySem.W.codeIn K fcd15 "_is_web" = true)
    (gk15 : PySem.W.keepIn K (.ref f15) = true)
    (ga16 : PySem.W.findIn K (.ref CW) "__init__" = some (some (.ref f16)))
    (gl16 : K.lookup f16 = some ⟨foc16, fod16, .func (PySem.W.fnOf "__init__" "Web.__init__" (defArgs sInit) (defBody sInit) (defScope sInit) .none fkv16 fdc16 fpm16 fan16 fcd16 fct16), fsl16⟩)
    (gc16 : PySem.W.codeIn K fcd16 "Web.__init__" = true)
    (gk16 : PySem.W.keepIn K (.ref f16) = true)
    (ga17 : PySem.W.nsIn K mainGlobals "_law_tie" = some (some (.ref f17)))
    (gl17 : K.lookup f17 = some ⟨foc17, fod17, .func (PySem.W.fnOf "_law_tie" "_law_tie" (defArgs sTie) (defBody sTie) (defScope sTie) .none fkv17 fdc17 fpm17 fan17 fcd17 fct17), fsl17⟩)
    (gc17 : PySem.W.codeIn K fcd17 "_law_tie" = true)
    (gk17 : PySem.W.keepIn K (.ref f17) = true)
    (ga18 : PySem.W.nsIn K mainGlobals "_law_plain" = some (some (.ref f18)))
    (gl18 : K.lookup f18 = some ⟨foc18, fod18, .func (PySem.W.fnOf "_law_plain" "_law_plain" (defArgs sPlain) (defBody sPlain) (defScope sPlain) .none fkv18 fdc18 fpm18 fan18 fcd18 fct18), fsl18⟩)
    (gc18 : PySem.W.codeIn K fcd18 "_law_plain" = true)
    (gk18 : PySem.W.keepIn K (.ref f18) = true)
    (ga19 : PySem.W.nsIn K mainGlobals "_law_names" = some (some (.ref f19)))
    (gl19 : K.lookup f19 = some ⟨foc19, fod19, .func (PySem.W.fnOf "_law_names" "_law_names" (defArgs sLNames) (defBody sLNames) (defScope sLNames) .none fkv19 fdc19 fpm19 fan19 fcd19 fct19), fsl19⟩)
    (gc19 : PySem.W.codeIn K fcd19 "_law_names" = true)
    (gk19 : PySem.W.keepIn K (.ref f19) = true)
    (ga20 : PySem.W.nsIn K mainGlobals "_law_pairs" = some (some (.ref f20)))
    (gl20 : K.lookup f20 = some ⟨foc20, fod20, .func (PySem.W.fnOf "_law_pairs" "_law_pairs" (defArgs sPairs) (defBody sPairs) (defScope sPairs) .none fkv20 fdc20 fpm20 fan20 fcd20 fct20), fsl20⟩)
    (gc20 : PySem.W.codeIn K fcd20 "_law_pairs" = true)
    (gk20 : PySem.W.keepIn K (.ref f20) = true)
    (ga21 : PySem.W.nsIn K mainGlobals "_law_web" = some (some (.ref f21)))
    (gl21 : K.lookup f21 = some ⟨foc21, fod21, .func (PySem.W.fnOf "_law_web" "_law_web" (defArgs sLWeb) (defBody sLWeb) (defScope sLWeb) .none fkv21 fdc21 fpm21 fan21 fcd21 fct21), fsl21⟩)
    (gc21 : PySem.W.codeIn K fcd21 "_law_web" = true)
    (gk21 : PySem.W.keepIn K (.ref f21) = true)
    (ga22 : PySem.W.nsIn K mainGlobals "_law_made" = some (some (.ref f22)))
    (gl22 : K.lookup f22 = some ⟨foc22, fod22, .func (PySem.W.fnOf "_law_made" "_law_made" (defArgs sMade) (defBody sMade) (defScope sMade) .none fkv22 fdc22 fpm22 fan22 fcd22 fct22), fsl22⟩)
    (gc22 : PySem.W.codeIn K fcd22 "_law_made" = true)
    (gk22 : PySem.W.keepIn K (.ref f22) = true)
    (ga23 : PySem.W.findIn K (.ref CW) "places" = some (some (.ref p23)))
    (gr23 : PySem.W.recIn K p23 "property" = some (.ref f23 :: r23))
    (gl23 : K.lookup f23 = some ⟨foc23, fod23, .func (PySem.W.fnOf "places" "Web.places" (defArgs sWPlaces) (defBody sWPlaces) (defScope sWPlaces) .none fkv23 fdc23 fpm23 fan23 fcd23 fct23), fsl23⟩)
    (gc23 : PySem.W.codeIn K fcd23 "Web.places" = true)
    (gk23 : PySem.W.keepIn K (.ref f23) = true)
    (ga24 : PySem.W.nsIn K mainGlobals "need_place" = some (some (.ref f24)))
    (gl24 : K.lookup f24 = some ⟨foc24, fod24, .func (PySem.W.fnOf "need_place" "need_place" (defArgs sNeedP) (defBody sNeedP) (defScope sNeedP) .none fkv24 fdc24 fpm24 fan24 fcd24 fct24), fsl24⟩)
    (gc24 : PySem.W.codeIn K fcd24 "need_place" = true)
    (gk24 : PySem.W.keepIn K (.ref f24) = true)
    (ga25 : PySem.W.findIn K (.ref CW) "neighbours" = some (some (.ref f25)))
    (gl25 : K.lookup f25 = some ⟨foc25, fod25, .func (PySem.W.fnOf "neighbours" "Web.neighbours" (defArgs sWNear) (defBody sWNear) (defScope sWNear) .none fkv25 fdc25 fpm25 fan25 fcd25 fct25), fsl25⟩)
    (gc25 : PySem.W.codeIn K fcd25 "Web.neighbours" = true)
    (gk25 : PySem.W.keepIn K (.ref f25) = true)
    (ga26 : PySem.W.nsIn K mainGlobals "need_web" = some (some (.ref f26)))
    (gl26 : K.lookup f26 = some ⟨foc26, fod26, .func (PySem.W.fnOf "need_web" "need_web" (defArgs sNeedW) (defBody sNeedW) (defScope sNeedW) .none fkv26 fdc26 fpm26 fan26 fcd26 fct26), fsl26⟩)
    (gc26 : PySem.W.codeIn K fcd26 "need_web" = true)
    (gk26 : PySem.W.keepIn K (.ref f26) = true)
    (ga27 : PySem.W.findIn K (.ref CW) "__eq__" = some (some (.ref f27)))
    (gl27 : K.lookup f27 = some ⟨foc27, fod27, .func (PySem.W.fnOf "__eq__" "Web.__eq__" (defArgs sWEq) (defBody sWEq) (defScope sWEq) .none fkv27 fdc27 fpm27 fan27 fcd27 fct27), fsl27⟩)
    (gc27 : PySem.W.codeIn K fcd27 "Web.__eq__" = true)
    (gk27 : PySem.W.keepIn K (.ref f27) = true)
    (ga28 : PySem.W.nsIn K mainGlobals "has_just_keys" = some (some (.ref f28)))
    (gl28 : K.lookup f28 = some ⟨foc28, fod28, .func (PySem.W.fnOf "has_just_keys" "has_just_keys" (defArgs sJustT) (defBody sJustT) (defScope sJustT) .none fkv28 fdc28 fpm28 fan28 fcd28 fct28), fsl28⟩)
    (gc28 : PySem.W.codeIn K fcd28 "has_just_keys" = true)
    (gk28 : PySem.W.keepIn K (.ref f28) = true)
    (ga29 : PySem.W.nsIn K mainGlobals "_are_numbers" = some (some (.ref f29)))
    (gl29 : K.lookup f29 = some ⟨foc29, fod29, .func (PySem.W.fnOf "_are_numbers" "_are_numbers" (defArgs sNumbers) (defBody sNumbers) (defScope sNumbers) .none fkv29 fdc29 fpm29 fan29 fcd29 fct29), fsl29⟩)
    (gc29 : PySem.W.codeIn K fcd29 "_are_numbers" = true)
    (gk29 : PySem.W.keepIn K (.ref f29) = true)
    (ga30 : PySem.W.findIn K (.ref CD) "__init__" = some (some (.ref f30)))
    (gl30 : K.lookup f30 = some ⟨foc30, fod30, .func (PySem.W.fnOf "__init__" "Debts.__init__" (defArgs sDInit) (defBody sDInit) (defScope sDInit) .none fkv30 fdc30 fpm30 fan30 fcd30 fct30), fsl30⟩)
    (gc30 : PySem.W.codeIn K fcd30 "Debts.__init__" = true)
    (gk30 : PySem.W.keepIn K (.ref f30) = true)
    (ga31 : PySem.W.nsIn K mainGlobals "made_debts" = some (some (.ref f31)))
    (gl31 : K.lookup f31 = some ⟨foc31, fod31, .func (PySem.W.fnOf "made_debts" "made_debts" (defArgs sMDebts) (defBody sMDebts) (defScope sMDebts) .none fkv31 fdc31 fpm31 fan31 fcd31 fct31), fsl31⟩)
    (gc31 : PySem.W.codeIn K fcd31 "made_debts" = true)
    (gk31 : PySem.W.keepIn K (.ref f31) = true)
    (ga32 : PySem.W.findIn K (.ref CD) "web" = some (some (.ref p32)))
    (gr32 : PySem.W.recIn K p32 "property" = some (.ref f32 :: r32))
    (gl32 : K.lookup f32 = some ⟨foc32, fod32, .func (PySem.W.fnOf "web" "Debts.web" (defArgs sDWeb) (defBody sDWeb) (defScope sDWeb) .none fkv32 fdc32 fpm32 fan32 fcd32 fct32), fsl32⟩)
    (gc32 : PySem.W.codeIn K fcd32 "Debts.web" = true)
    (gk32 : PySem.W.keepIn K (.ref f32) = true)
    (ga33 : PySem.W.findIn K (.ref CD) "amounts" = some (some (.ref p33)))
    (gr33 : PySem.W.recIn K p33 "property" = some (.ref f33 :: r33))
    (gl33 : K.lookup f33 = some ⟨foc33, fod33, .func (PySem.W.fnOf "amounts" "Debts.amounts" (defArgs sDAm) (defBody sDAm) (defScope sDAm) .none fkv33 fdc33 fpm33 fan33 fcd33 fct33), fsl33⟩)
    (gc33 : PySem.W.codeIn K fcd33 "Debts.amounts" = true)
    (gk33 : PySem.W.keepIn K (.ref f33) = true)
    (ga34 : PySem.W.nsIn K mainGlobals "lent_amounts" = some (some (.ref f34)))
    (gl34 : K.lookup f34 = some ⟨foc34, fod34, .func (PySem.W.fnOf "lent_amounts" "lent_amounts" (defArgs sLentA) (defBody sLentA) (defScope sLentA) .none fkv34 fdc34 fpm34 fan34 fcd34 fct34), fsl34⟩)
    (gc34 : PySem.W.codeIn K fcd34 "lent_amounts" = true)
    (gk34 : PySem.W.keepIn K (.ref f34) = true)
    (ga35 : PySem.W.nsIn K mainGlobals "lent_by" = some (some (.ref f35)))
    (gl35 : K.lookup f35 = some ⟨foc35, fod35, .func (PySem.W.fnOf "lent_by" "lent_by" (defArgs sLentBy) (defBody sLentBy) (defScope sLentBy) .none fkv35 fdc35 fpm35 fan35 fcd35 fct35), fsl35⟩)
    (gc35 : PySem.W.codeIn K fcd35 "lent_by" = true)
    (gk35 : PySem.W.keepIn K (.ref f35) = true)
    (ga36 : PySem.W.nsIn K mainGlobals "_need_many" = some (some (.ref f36)))
    (gl36 : K.lookup f36 = some ⟨foc36, fod36, .func (PySem.W.fnOf "_need_many" "_need_many" (defArgs sNeedM) (defBody sNeedM) (defScope sNeedM) .none fkv36 fdc36 fpm36 fan36 fcd36 fct36), fsl36⟩)
    (gc36 : PySem.W.codeIn K fcd36 "_need_many" = true)
    (gk36 : PySem.W.keepIn K (.ref f36) = true)
    (ga37 : PySem.W.nsIn K mainGlobals "is_plan" = some (some (.ref f37)))
    (gl37 : K.lookup f37 = some ⟨foc37, fod37, .func (PySem.W.fnOf "is_plan" "is_plan" (defArgs sIsPlan) (defBody sIsPlan) (defScope sIsPlan) .none fkv37 fdc37 fpm37 fan37 fcd37 fct37), fsl37⟩)
    (gc37 : PySem.W.codeIn K fcd37 "is_plan" = true)
    (gk37 : PySem.W.keepIn K (.ref f37) = true)
    (ga38 : PySem.W.nsIn K mainGlobals "_need_plan" = some (some (.ref f38)))
    (gl38 : K.lookup f38 = some ⟨foc38, fod38, .func (PySem.W.fnOf "_need_plan" "_need_plan" (defArgs sNeedPl) (defBody sNeedPl) (defScope sNeedPl) .none fkv38 fdc38 fpm38 fan38 fcd38 fct38), fsl38⟩)
    (gc38 : PySem.W.codeIn K fcd38 "_need_plan" = true)
    (gk38 : PySem.W.keepIn K (.ref f38) = true)
    (ga39 : PySem.W.findIn K (.ref CD) "lent" = some (some (.ref f39)))
    (gl39 : K.lookup f39 = some ⟨foc39, fod39, .func (PySem.W.fnOf "lent" "Debts.lent" (defArgs sLent) (defBody sLent) (defScope sLent) .none (.ref kd39) fdc39 fpm39 fan39 fcd39 fct39), fsl39⟩)
    (gc39 : PySem.W.codeIn K fcd39 "Debts.lent" = true)
    (gk39 : PySem.W.keepIn K (.ref f39) = true)
    (gw39 : PySem.W.nsIn K kd39 "many" = some (some (.int 1 kt39)))
    (ga40 : PySem.W.nsIn K mainGlobals "is_place_set" = some (some (.ref f40)))
    (gl40 : K.lookup f40 = some ⟨foc40, fod40, .func (PySem.W.fnOf "is_place_set" "is_place_set" (defArgs sPlSet) (defBody sPlSet) (defScope sPlSet) .none fkv40 fdc40 fpm40 fan40 fcd40 fct40), fsl40⟩)
    (gc40 : PySem.W.codeIn K fcd40 "is_place_set" = true)
    (gk40 : PySem.W.keepIn K (.ref f40) = true)
    (ga41 : PySem.W.findIn K (.ref CD) "lent_together" = some (some (.ref f41)))
    (gl41 : K.lookup f41 = some ⟨foc41, fod41, .func (PySem.W.fnOf "lent_together" "Debts.lent_together" (defArgs sLentT) (defBody sLentT) (defScope sLentT) .none fkv41 fdc41 fpm41 fan41 fcd41 fct41), fsl41⟩)
    (gc41 : PySem.W.codeIn K fcd41 "Debts.lent_together" = true)
    (gk41 : PySem.W.keepIn K (.ref f41) = true)
    (ga42 : PySem.W.findIn K (.ref CD) "moved" = some (some (.ref f42)))
    (gl42 : K.lookup f42 = some ⟨foc42, fod42, .func (PySem.W.fnOf "moved" "Debts.moved" (defArgs sMoved) (defBody sMoved) (defScope sMoved) .none (.ref kd42) fdc42 fpm42 fan42 fcd42 fct42), fsl42⟩)
    (gc42 : PySem.W.codeIn K fcd42 "Debts.moved" = true)
    (gk42 : PySem.W.keepIn K (.ref f42) = true)
    (gw42 : PySem.W.nsIn K kd42 "many" = some (some (.int 1 kt42)))
    (ga43 : PySem.W.findIn K (.ref CD) "after" = some (some (.ref f43)))
    (gl43 : K.lookup f43 = some ⟨foc43, fod43, .func (PySem.W.fnOf "after" "Debts.after" (defArgs sAfter) (defBody sAfter) (defScope sAfter) .none fkv43 fdc43 fpm43 fan43 fcd43 fct43), fsl43⟩)
    (gc43 : PySem.W.codeIn K fcd43 "Debts.after" = true)
    (gk43 : PySem.W.keepIn K (.ref f43) = true)
    (ga44 : PySem.W.findIn K (.ref CD) "__eq__" = some (some (.ref f44)))
    (gl44 : K.lookup f44 = some ⟨foc44, fod44, .func (PySem.W.fnOf "__eq__" "Debts.__eq__" (defArgs sDEq) (defBody sDEq) (defScope sDEq) .none fkv44 fdc44 fpm44 fan44 fcd44 fct44), fsl44⟩)
    (gc44 : PySem.W.codeIn K fcd44 "Debts.__eq__" = true)
    (gk44 : PySem.W.keepIn K (.ref f44) = true)
    (ga45 : PySem.W.findIn K (.ref CD) "total" = some (some (.ref p45)))
    (gr45 : PySem.W.recIn K p45 "property" = some (.ref f45 :: r45))
    (gl45 : K.lookup f45 = some ⟨foc45, fod45, .func (PySem.W.fnOf "total" "Debts.total" (defArgs sDTot) (defBody sDTot) (defScope sDTot) .none fkv45 fdc45 fpm45 fan45 fcd45 fct45), fsl45⟩)
    (gc45 : PySem.W.codeIn K fcd45 "Debts.total" = true)
    (gk45 : PySem.W.keepIn K (.ref f45) = true)
    (ga46 : PySem.W.nsIn K mainGlobals "plain_plan" = some (some (.ref f46)))
    (gl46 : K.lookup f46 = some ⟨foc46, fod46, .func (PySem.W.fnOf "plain_plan" "plain_plan" (defArgs sPPlan) (defBody sPPlan) (defScope sPPlan) .none fkv46 fdc46 fpm46 fan46 fcd46 fct46), fsl46⟩)
    (gc46 : PySem.W.codeIn K fcd46 "plain_plan" = true)
    (gk46 : PySem.W.keepIn K (.ref f46) = true)
    (ga47 : PySem.W.nsIn K mainGlobals "joined_plans" = some (some (.ref f47)))
    (gl47 : K.lookup f47 = some ⟨foc47, fod47, .func (PySem.W.fnOf "joined_plans" "joined_plans" (defArgs sJoin) (defBody sJoin) (defScope sJoin) .none fkv47 fdc47 fpm47 fan47 fcd47 fct47), fsl47⟩)
    (gc47 : PySem.W.codeIn K fcd47 "joined_plans" = true)
    (gk47 : PySem.W.keepIn K (.ref f47) = true)
    (ga48 : PySem.W.nsIn K mainGlobals "_law_none" = some (some (.ref f48)))
    (gl48 : K.lookup f48 = some ⟨foc48, fod48, .func (PySem.W.fnOf "_law_none" "_law_none" (defArgs sLNone) (defBody sLNone) (defScope sLNone) .none fkv48 fdc48 fpm48 fan48 fcd48 fct48), fsl48⟩)
    (gc48 : PySem.W.codeIn K fcd48 "_law_none" = true)
    (gk48 : PySem.W.keepIn K (.ref f48) = true)
    (ga49 : PySem.W.nsIn K mainGlobals "_law_step" = some (some (.ref f49)))
    (gl49 : K.lookup f49 = some ⟨foc49, fod49, .func (PySem.W.fnOf "_law_step" "_law_step" (defArgs sLStep) (defBody sLStep) (defScope sLStep) .none fkv49 fdc49 fpm49 fan49 fcd49 fct49), fsl49⟩)
    (gc49 : PySem.W.codeIn K fcd49 "_law_step" = true)
    (gk49 : PySem.W.keepIn K (.ref f49) = true)
    (ga50 : PySem.W.nsIn K mainGlobals "_law_added" = some (some (.ref f50)))
    (gl50 : K.lookup f50 = some ⟨foc50, fod50, .func (PySem.W.fnOf "_law_added" "_law_added" (defArgs sLAdded) (defBody sLAdded) (defScope sLAdded) .none fkv50 fdc50 fpm50 fan50 fcd50 fct50), fsl50⟩)
    (gc50 : PySem.W.codeIn K fcd50 "_law_added" = true)
    (gk50 : PySem.W.keepIn K (.ref f50) = true)
    (ga51 : PySem.W.nsIn K mainGlobals "_law_after" = some (some (.ref f51)))
    (gl51 : K.lookup f51 = some ⟨foc51, fod51, .func (PySem.W.fnOf "_law_after" "_law_after" (defArgs sLAfter) (defBody sLAfter) (defScope sLAfter) .none fkv51 fdc51 fpm51 fan51 fcd51 fct51), fsl51⟩)
    (gc51 : PySem.W.codeIn K fcd51 "_law_after" = true)
    (gk51 : PySem.W.keepIn K (.ref f51) = true)
    (ga52 : PySem.W.nsIn K mainGlobals "_law_lent" = some (some (.ref f52)))
    (gl52 : K.lookup f52 = some ⟨foc52, fod52, .func (PySem.W.fnOf "_law_lent" "_law_lent" (defArgs sLLent) (defBody sLLent) (defScope sLLent) .none fkv52 fdc52 fpm52 fan52 fcd52 fct52), fsl52⟩)
    (gc52 : PySem.W.codeIn K fcd52 "_law_lent" = true)
    (gk52 : PySem.W.keepIn K (.ref f52) = true)
    (ga53 : PySem.W.nsIn K mainGlobals "_law_debts_made" = some (some (.ref f53)))
    (gl53 : K.lookup f53 = some ⟨foc53, fod53, .func (PySem.W.fnOf "_law_debts_made" "_law_debts_made" (defArgs sLDMade) (defBody sLDMade) (defScope sLDMade) .none fkv53 fdc53 fpm53 fan53 fcd53 fct53), fsl53⟩)
    (gc53 : PySem.W.codeIn K fcd53 "_law_debts_made" = true)
    (gk53 : PySem.W.keepIn K (.ref f53) = true)
    (ga54 : PySem.W.nsIn K mainGlobals "_law_is_debts" = some (some (.ref f54)))
    (gl54 : K.lookup f54 = some ⟨foc54, fod54, .func (PySem.W.fnOf "_law_is_debts" "_law_is_debts" (defArgs sLIsD) (defBody sLIsD) (defScope sLIsD) .none fkv54 fdc54 fpm54 fan54 fcd54 fct54), fsl54⟩)
    (gc54 : PySem.W.codeIn K fcd54 "_law_is_debts" = true)
    (gk54 : PySem.W.keepIn K (.ref f54) = true)
    (ga55 : PySem.W.nsIn K mainGlobals "_law_number" = some (some (.ref f55)))
    (gl55 : K.lookup f55 = some ⟨foc55, fod55, .func (PySem.W.fnOf "_law_number" "_law_number" (defArgs sLNum) (defBody sLNum) (defScope sLNum) .none fkv55 fdc55 fpm55 fan55 fcd55 fct55), fsl55⟩)
    (gc55 : PySem.W.codeIn K fcd55 "_law_number" = true)
    (gk55 : PySem.W.keepIn K (.ref f55) = true)
    (ga56 : PySem.W.nsIn K mainGlobals "_law_plan_drawn" = some (some (.ref f56)))
    (gl56 : K.lookup f56 = some ⟨foc56, fod56, .func (PySem.W.fnOf "_law_plan_drawn" "_law_plan_drawn" (defArgs sLPlan) (defBody sLPlan) (defScope sLPlan) .none fkv56 fdc56 fpm56 fan56 fcd56 fct56), fsl56⟩)
    (gc56 : PySem.W.codeIn K fcd56 "_law_plan_drawn" = true)
    (gk56 : PySem.W.keepIn K (.ref f56) = true)
    (ga57 : PySem.W.nsIn K mainGlobals "_law_debts" = some (some (.ref f57)))
    (gl57 : K.lookup f57 = some ⟨foc57, fod57, .func (PySem.W.fnOf "_law_debts" "_law_debts" (defArgs sLDebts) (defBody sLDebts) (defScope sLDebts) .none fkv57 fdc57 fpm57 fan57 fcd57 fct57), fsl57⟩)
    (gc57 : PySem.W.codeIn K fcd57 "_law_debts" = true)
    (gk57 : PySem.W.keepIn K (.ref f57) = true)
    (ga58 : PySem.W.nsIn K mainGlobals "_law_plain_of" = some (some (.ref f58)))
    (gl58 : K.lookup f58 = some ⟨foc58, fod58, .func (PySem.W.fnOf "_law_plain_of" "_law_plain_of" (defArgs sLPlOf) (defBody sLPlOf) (defScope sLPlOf) .none fkv58 fdc58 fpm58 fan58 fcd58 fct58), fsl58⟩)
    (gc58 : PySem.W.codeIn K fcd58 "_law_plain_of" = true)
    (gk58 : PySem.W.keepIn K (.ref f58) = true)
    (ga59 : PySem.W.nsIn K mainGlobals "_law_steps_right" = some (some (.ref f59)))
    (gl59 : K.lookup f59 = some ⟨foc59, fod59, .func (PySem.W.fnOf "_law_steps_right" "_law_steps_right" (defArgs sLSteps) (defBody sLSteps) (defScope sLSteps) .none fkv59 fdc59 fpm59 fan59 fcd59 fct59), fsl59⟩)
    (gc59 : PySem.W.codeIn K fcd59 "_law_steps_right" = true)
    (gk59 : PySem.W.keepIn K (.ref f59) = true)
    (ga60 : PySem.W.nsIn K mainGlobals "_law_plans_right" = some (some (.ref f60)))
    (gl60 : K.lookup f60 = some ⟨foc60, fod60, .func (PySem.W.fnOf "_law_plans_right" "_law_plans_right" (defArgs sLPlans) (defBody sLPlans) (defScope sLPlans) .none fkv60 fdc60 fpm60 fan60 fcd60 fct60), fsl60⟩)
    (gc60 : PySem.W.codeIn K fcd60 "_law_plans_right" = true)
    (gk60 : PySem.W.keepIn K (.ref f60) = true)
    (ga61 : PySem.W.nsIn K mainGlobals "_line" = some (some (.ref f61)))
    (gl61 : K.lookup f61 = some ⟨foc61, fod61, .func (PySem.W.fnOf "_line" "_line" (defArgs sLine) (defBody sLine) (defScope sLine) .none fkv61 fdc61 fpm61 fan61 fcd61 fct61), fsl61⟩)
    (gc61 : PySem.W.codeIn K fcd61 "_line" = true)
    (gk61 : PySem.W.keepIn K (.ref f61) = true)
    (ga62 : PySem.W.findIn K (.ref CD) "lines" = some (some (.ref p62)))
    (gr62 : PySem.W.recIn K p62 "property" = some (.ref f62 :: r62))
    (gl62 : K.lookup f62 = some ⟨foc62, fod62, .func (PySem.W.fnOf "lines" "Debts.lines" (defArgs sDLines) (defBody sDLines) (defScope sDLines) .none fkv62 fdc62 fpm62 fan62 fcd62 fct62), fsl62⟩)
    (gc62 : PySem.W.codeIn K fcd62 "Debts.lines" = true)
    (gk62 : PySem.W.keepIn K (.ref f62) = true)
    (ga63 : PySem.W.nsIn K mainGlobals "_law_written" = some (some (.ref f63)))
    (gl63 : K.lookup f63 = some ⟨foc63, fod63, .func (PySem.W.fnOf "_law_written" "_law_written" (defArgs sLWri) (defBody sLWri) (defScope sLWri) .none fkv63 fdc63 fpm63 fan63 fcd63 fct63), fsl63⟩)
    (gc63 : PySem.W.codeIn K fcd63 "_law_written" = true)
    (gk63 : PySem.W.keepIn K (.ref f63) = true)
    (ga64 : PySem.W.nsIn K mainGlobals "law" = some (some (.ref f64)))
    (gl64 : K.lookup f64 = some ⟨foc64, fod64, .func (PySem.W.fnOf "law" "law" (defArgs sLaw) (defBody sLaw) (defScope sLaw) .none fkv64 fdc64 fpm64 fan64 fcd64 fct64), fsl64⟩)
    (gc64 : PySem.W.codeIn K fcd64 "law" = true)
    (gk64 : PySem.W.keepIn K (.ref f64) = true)
    (m_MAX_LETTERS : PySem.W.nsIn K mainGlobals "MAX_LETTERS" = some (some (.int 8 mt0)))
    (m_MAX_PLACES : PySem.W.nsIn K mainGlobals "MAX_PLACES" = some (some (.int 9 mt1)))
    (m_MAX_TIES : PySem.W.nsIn K mainGlobals "MAX_TIES" = some (some (.int 18 mt2)))
    (z_abs : PySem.W.nsIn K mainGlobals "abs" = some none)
    (z_all : PySem.W.nsIn K mainGlobals "all" = some none)
    (z_bool : PySem.W.nsIn K mainGlobals "bool" = some none)
    (z_dict : PySem.W.nsIn K mainGlobals "dict" = some none)
    (z_int : PySem.W.nsIn K mainGlobals "int" = some none)
    (z_isinstance : PySem.W.nsIn K mainGlobals "isinstance" = some none)
    (z_len : PySem.W.nsIn K mainGlobals "len" = some none)
    (z_list : PySem.W.nsIn K mainGlobals "list" = some none)
    (z_max : PySem.W.nsIn K mainGlobals "max" = some none)
    (z_min : PySem.W.nsIn K mainGlobals "min" = some none)
    (z_range : PySem.W.nsIn K mainGlobals "range" = some none)
    (z_repr : PySem.W.nsIn K mainGlobals "repr" = some none)
    (z_set : PySem.W.nsIn K mainGlobals "set" = some none)
    (z_sorted : PySem.W.nsIn K mainGlobals "sorted" = some none)
    (z_str : PySem.W.nsIn K mainGlobals "str" = some none)
    (z_sum : PySem.W.nsIn K mainGlobals "sum" = some none)
    (z_tuple : PySem.W.nsIn K mainGlobals "tuple" = some none)
    (z_zip : PySem.W.nsIn K mainGlobals "zip" = some none)
    (xx : clsB K CW CD f16 p23 f25 f27 f30 p32 p33 f39 f41 f42 f43 f44 p45 p62 = true)
    : ∃ fd : FuncData, (∀ (s : Shared) (u : Value), BindsTo s fd ⟨[u], []⟩ [("_law_script", u)]) ∧ ∀ base : Heap, K.In base → base.Ns mainGlobals mg → GFn l.prog w K mg base (L2.CX l.prog w) 11 fa fd ["_law_script"] (spLaw K) := by
  have e := hfa.symm.trans (PySem.W.mg_of X G ga64)
  cases e
  have g : ∀ {n : Str} {v : Value}, PySem.W.nsIn K mainGlobals n = some (some v) → mg n = some v := fun e => PySem.W.mg_of X G e
  have zn : ∀ {n : Str}, PySem.W.nsIn K mainGlobals n = some none → mg n = none := fun e => PySem.W.mg_none_of X G e
  unfold clsB at xx
  simp only [Bool.and_eq_true, decide_eq_true_eq] at xx
  obtain ⟨y0, y1, y2, y3, y4, y5, y6, y7, y8, y9, y10, y11, y12, y13, y14, y15, y16, y17, y18, y19, y20, y21, y22, y23, y24, y25, y26, y27, y28, y29, y30, y31, y32, y33, y34, y35, y36, y37, y38, y39, y40, y41, y42, y43, y44, y45, y46, y47, y48⟩ := xx
  have KW : Cls K CW := ⟨y0, y1, y2, y3⟩
  have KD : Cls K CD := ⟨y11, y12, y13, y14⟩
  have WK : WebK K CW := ⟨KW, y22, y23, y24⟩
  have DK : DebtsK K CD := ⟨KD, y25, y26⟩
  have ITW : InsTy K CW := ⟨KW, y6, y27, y28, y7⟩
  have MkW : Mk K CW f16 := ⟨y4, ga16, y30, y5⟩
  have OEW : OwnCmp K CW f27 := ⟨ga27, y9, y10, y34⟩
  have ITD : InsTy K CD := ⟨KD, y17, y27, y28, y18⟩
  have MkD : Mk K CD f30 := ⟨y15, ga30, y35, y16⟩
  have OED : OwnCmp K CD f44 := ⟨ga44, y20, y21, y44⟩
  have F1 := fun_mk (st := sRoll) gl1 gc1 gk1
  have F2 := fun_mk (st := sPick) gl2 gc2 gk2
  have F3 := fun_mk (st := sDice) gl3 gc3 gk3
  have F4 := fun_mk (st := sInteger) gl4 gc4 gk4
  have F5 := fun_mk (st := sWhole) gl5 gc5 gk5
  have F6 := fun_mk (st := sName) gl6 gc6 gk6
  have F7 := fun_mk (st := sNames) gl7 gc7 gk7
  have F8 := fun_mk (st := sMixed) gl8 gc8 gk8
  have F9 := fun_mk (st := sIsTie) gl9 gc9 gk9
  have F10 := fun_mk (st := sAsc) gl10 gc10 gk10
  have F11 := fun_mk (st := sEnds) gl11 gc11 gk11
  have F12 := fun_mk (st := sReach) gl12 gc12 gk12
  have F13 := fun_mk (st := sPlaces) gl13 gc13 gk13
  have F14 := fun_mk (st := sTies) gl14 gc14 gk14
  have F15 := fun_mk (st := sIsWeb) gl15 gc15 gk15
  have F16 := fun_mk (st := sInit) gl16 gc16 gk16
  have M16 : Meth K CW "__init__" f16 := ⟨ga16, y30, gk16⟩
  have F17 := fun_mk (st := sTie) gl17 gc17 gk17
  have F18 := fun_mk (st := sPlain) gl18 gc18 gk18
  have F19 := fun_mk (st := sLNames) gl19 gc19 gk19
  have F20 := fun_mk (st := sPairs) gl20 gc20 gk20
  have F21 := fun_mk (st := sLWeb) gl21 gc21 gk21
  have F22 := fun_mk (st := sMade) gl22 gc22 gk22
  have F23 := fun_mk (st := sWPlaces) gl23 gc23 gk23
  have P23 : PropOf K CW "places" p23 f23 := ⟨ga23, y31, y32, ⟨_, gr23⟩⟩
  have F24 := fun_mk (st := sNeedP) gl24 gc24 gk24
  have F25 := fun_mk (st := sWNear) gl25 gc25 gk25
  have M25 : Meth K CW "neighbours" f25 := ⟨ga25, y33, gk25⟩
  have F26 := fun_mk (st := sNeedW) gl26 gc26 gk26
  have F27 := fun_mk (st := sWEq) gl27 gc27 gk27
  have M27 : Meth K CW "__eq__" f27 := ⟨ga27, y34, gk27⟩
  have F28 := fun_mk (st := sJustT) gl28 gc28 gk28
  have F29 := fun_mk (st := sNumbers) gl29 gc29 gk29
  have F30 := fun_mk (st := sDInit) gl30 gc30 gk30
  have M30 : Meth K CD "__init__" f30 := ⟨ga30, y35, gk30⟩
  have F31 := fun_mk (st := sMDebts) gl31 gc31 gk31
  have F32 := fun_mk (st := sDWeb) gl32 gc32 gk32
  have P32 : PropOf K CD "web" p32 f32 := ⟨ga32, y36, y37, ⟨_, gr32⟩⟩
  have F33 := fun_mk (st := sDAm) gl33 gc33 gk33
  have P33 : PropOf K CD "amounts" p33 f33 := ⟨ga33, y38, y39, ⟨_, gr33⟩⟩
  have F34 := fun_mk (st := sLentA) gl34 gc34 gk34
  have F35 := fun_mk (st := sLentBy) gl35 gc35 gk35
  have F36 := fun_mk (st := sNeedM) gl36 gc36 gk36
  have F37 := fun_mk (st := sIsPlan) gl37 gc37 gk37
  have F38 := fun_mk (st := sNeedPl) gl38 gc38 gk38
  have D39 : FunD K "lent" "Debts.lent" (defArgs sLent) (defBody sLent) (defScope sLent) [] [("many", .int 1)] f39 _ := ⟨⟨_, _, _, _, _, _, _, _, _, _, rfl, gl39, gc39, .inl ⟨rfl, rfl⟩, .inr ⟨kd39, rfl, fun q hq => by rw [List.mem_singleton.mp hq]; exact ⟨_, gw39, ⟨_, rfl⟩⟩⟩⟩, gk39⟩
  have F39 := funD_fun (st := sLent) D39
  have M39 : Meth K CD "lent" f39 := ⟨ga39, y40, gk39⟩
  have F40 := fun_mk (st := sPlSet) gl40 gc40 gk40
  have F41 := fun_mk (st := sLentT) gl41 gc41 gk41
  have M41 : Meth K CD "lent_together" f41 := ⟨ga41, y41, gk41⟩
  have D42 : FunD K "moved" "Debts.moved" (defArgs sMoved) (defBody sMoved) (defScope sMoved) [] [("many", .int 1)] f42 _ := ⟨⟨_, _, _, _, _, _, _, _, _, _, rfl, gl42, gc42, .inl ⟨rfl, rfl⟩, .inr ⟨kd42, rfl, fun q hq => by rw [List.mem_singleton.mp hq]; exact ⟨_, gw42, ⟨_, rfl⟩⟩⟩⟩, gk42⟩
  have F42 := funD_fun (st := sMoved) D42
  have M42 : Meth K CD "moved" f42 := ⟨ga42, y42, gk42⟩
  have F43 := fun_mk (st := sAfter) gl43 gc43 gk43
  have M43 : Meth K CD "after" f43 := ⟨ga43, y43, gk43⟩
  have F44 := fun_mk (st := sDEq) gl44 gc44 gk44
  have M44 : Meth K CD "__eq__" f44 := ⟨ga44, y44, gk44⟩
  have F45 := fun_mk (st := sDTot) gl45 gc45 gk45
  have P45 : PropOf K CD "total" p45 f45 := ⟨ga45, y45, y46, ⟨_, gr45⟩⟩
  have F46 := fun_mk (st := sPPlan) gl46 gc46 gk46
  have F47 := fun_mk (st := sJoin) gl47 gc47 gk47
  have F48 := fun_mk (st := sLNone) gl48 gc48 gk48
  have F49 := fun_mk (st := sLStep) gl49 gc49 gk49
  have F50 := fun_mk (st := sLAdded) gl50 gc50 gk50
  have F51 := fun_mk (st := sLAfter) gl51 gc51 gk51
  have F52 := fun_mk (st := sLLent) gl52 gc52 gk52
  have F53 := fun_mk (st := sLDMade) gl53 gc53 gk53
  have F54 := fun_mk (st := sLIsD) gl54 gc54 gk54
  have F55 := fun_mk (st := sLNum) gl55 gc55 gk55
  have F56 := fun_mk (st := sLPlan) gl56 gc56 gk56
  have F57 := fun_mk (st := sLDebts) gl57 gc57 gk57
  have F58 := fun_mk (st := sLPlOf) gl58 gc58 gk58
  have F59 := fun_mk (st := sLSteps) gl59 gc59 gk59
  have F60 := fun_mk (st := sLPlans) gl60 gc60 gk60
  have F61 := fun_mk (st := sLine) gl61 gc61 gk61
  have F62 := fun_mk (st := sDLines) gl62 gc62 gk62
  have P62 : PropOf K CD "lines" p62 f62 := ⟨ga62, y47, y48, ⟨_, gr62⟩⟩
  have F63 := fun_mk (st := sLWri) gl63 gc63 gk63
  have F64 := fun_mk (st := sLaw) gl64 gc64 gk64
  have T_Blt : Blt mg := ⟨zn z_len, zn z_int, zn z_max, zn z_min, zn z_abs, zn z_range⟩
  have T_BltB : BltB mg := ⟨zn z_len, zn z_all, zn z_zip, zn z_tuple, zn z_sorted, zn z_isinstance⟩
  have T_BltL : BltL mg := ⟨zn z_range, zn z_isinstance, zn z_str, zn z_len, zn z_list⟩
  have T_BltM : BltM mg := ⟨zn z_min, zn z_max, zn z_list, zn z_sorted, zn z_set, zn z_tuple, zn z_range, zn z_len⟩
  have T_BltW : BltW mg := ⟨zn z_isinstance, zn z_int, zn z_bool, zn z_str, zn z_tuple, zn z_dict, zn z_len, zn z_abs, zn z_all, zn z_set⟩
  refine ⟨PySem.W.fnOf "law" "law" (defArgs sLaw) (defBody sLaw) (defScope sLaw) .none fkv64 fdc64 fpm64 fan64 fcd64 fct64, fun s u => .of_eq rfl, fun base _ _ => ?_⟩
  have G1 := ok_roll (P := l.prog) (w := w) (base := base) (mg := mg) F1 T_Blt
  have G2 := ok_pick (P := l.prog) (w := w) (base := base) (mg := mg) F2 T_Blt F1 (g ga1)
  have G3 := ok_dice (P := l.prog) (w := w) (base := base) (mg := mg) F3 T_Blt
  have G4 := ok_integer (P := l.prog) (w := w) (base := base) (mg := mg) F4 F5 (g ga5) T_BltW
  have G6 := ok_name (P := l.prog) (w := w) (base := base) (mg := mg) F6 (g m_MAX_LETTERS) T_BltW
  have G7 := ok_names (P := l.prog) (w := w) (base := base) (mg := mg) F7 F6 (g ga6) G6 T_BltW
  have G8 := ok_mixed (P := l.prog) (w := w) (base := base) (mg := mg) F8 F1 (g ga1) G1 T_BltL
  have G9 := ok_isTie (P := l.prog) (w := w) (base := base) (mg := mg) F9 F7 (g ga7) G7 T_BltB
  have G10 := ok_asc (P := l.prog) (w := w) (base := base) (mg := mg) F10 T_BltB
  have G11 := ok_ends (P := l.prog) (w := w) (base := base) (mg := mg) F11 T_BltB
  have G12 := ok_reach (P := l.prog) (w := w) (base := base) (mg := mg) F12 F11 (g ga11) G11 T_BltB
  have G13 := ok_places (P := l.prog) (w := w) (base := base) (mg := mg) F13 F7 (g ga7) G7 F10 (g ga10) G10 (g m_MAX_PLACES) T_BltB
  have G14 := ok_ties (P := l.prog) (w := w) (base := base) (mg := mg) F14 F9 (g ga9) G9 F10 (g ga10) G10 (g m_MAX_TIES) T_BltB
  have G15 := ok_isweb (P := l.prog) (w := w) (base := base) (mg := mg) F15 F13 (g ga13) G13 F14 (g ga14) G14 F12 (g ga12) G12
  have G16 := ok_init (P := l.prog) (w := w) (base := base) (mg := mg) (C := CW) F16 F15 (g ga15) G15 F11 (g ga11) G11 WK
  have G17 := ok_tie (P := l.prog) (w := w) (base := base) (mg := mg) F17 T_BltM
  have G18 := ok_plain (P := l.prog) (w := w) (base := base) (mg := mg) F18 F17 (g ga17) G17 T_BltM
  have G19 := ok_lnames (P := l.prog) (w := w) (base := base) (mg := mg) F19
  have G20 := ok_pairs (P := l.prog) (w := w) (base := base) (mg := mg) F20 F17 (g ga17) G17 T_BltM
  have G21 := ok_lweb (P := l.prog) (w := w) (base := base) (mg := mg) F21 F8 (g ga8) G8 F19 (g ga19) G19 F1 (g ga1) G1 F17 (g ga17) G17 F20 (g ga20) G20 F18 (g ga18) G18 T_BltM
  have G22 := ok_made (P := l.prog) (w := w) (base := base) (mg := mg) (C := CW) F22 F16 MkW (g aW) G16 T_BltM
  have G23 := ok_wplaces (P := l.prog) (w := w) (base := base) (mg := mg) (C := CW) F23 WK
  have G24 := ok_needp (P := l.prog) (w := w) (base := base) (mg := mg) (C := CW) F24 F23 P23 G23 WK
  have G25 := ok_wnear (P := l.prog) (w := w) (base := base) (mg := mg) (C := CW) F25 F24 (g ga24) G24 WK
  have G26 := ok_needw (P := l.prog) (w := w) (base := base) (mg := mg) (C := CW) F26 (g aW) y8 ITW T_BltB
  have G27 := ok_weq (P := l.prog) (w := w) (base := base) (mg := mg) (C := CW) F27 (g aW) y8 ITW WK T_BltB
  have G28 := ok_justT (P := l.prog) (w := w) (base := base) (mg := mg) F28 T_BltW
  have G29 := ok_numbers (P := l.prog) (w := w) (base := base) (mg := mg) (C := CW) F29 F28 (g ga28) G28 F4 (g ga4) G4 F23 P23 G23 WK T_BltB
  have G30 := ok_dinit (P := l.prog) (w := w) (base := base) (mg := mg) (CW := CW) (CD := CD) F30 F26 (g ga26) G26 F29 (g ga29) G29 F23 P23 G23 WK DK
  have G31 := ok_mdebts (P := l.prog) (w := w) (base := base) (mg := mg) (CW := CW) (CD := CD) F31 F30 MkD (g aD) G30 F23 P23 G23 WK DK
  have G32 := ok_dweb (P := l.prog) (w := w) (base := base) (mg := mg) (CW := CW) (CD := CD) F32 DK
  have G33 := ok_dam (P := l.prog) (w := w) (base := base) (mg := mg) (CW := CW) (CD := CD) F33 (zn z_dict) DK
  have G34 := ok_lenta (P := l.prog) (w := w) (base := base) (mg := mg) (CW := CW) F34 F25 M25 G25 F23 P23 G23 WK T_BltB (zn z_sum)
  have G35 := ok_lentby (P := l.prog) (w := w) (base := base) (mg := mg) (CW := CW) (CD := CD) F35 F31 (g ga31) G31 F34 (g ga34) G34 F32 P32 G32 F33 P33 G33 DK
  have G36 := ok_needm (P := l.prog) (w := w) (base := base) (mg := mg) F36 F4 (g ga4) G4
  have G37 := ok_isplan (P := l.prog) (w := w) (base := base) (mg := mg) (C := CW) F37 F26 (g ga26) G26 F29 (g ga29) G29
  have G38 := ok_needpl (P := l.prog) (w := w) (base := base) (mg := mg) (C := CW) F38 F37 (g ga37) G37
  have G39 := ok_lent (P := l.prog) (w := w) (base := base) (mg := mg) (CW := CW) (CD := CD) F39 F24 (g ga24) G24 F36 (g ga36) G36 F35 (g ga35) G35 F23 P23 G23 WK DK
  have G40 := ok_plset (P := l.prog) (w := w) (base := base) (mg := mg) (CW := CW) F40 F10 (g ga10) G10 F23 P23 G23 WK T_BltB
  have G41 := ok_lentt (P := l.prog) (w := w) (base := base) (mg := mg) (CW := CW) (CD := CD) F41 F40 (g ga40) G40 F35 (g ga35) G35 F23 P23 G23 WK DK
  have G42 := ok_moved (P := l.prog) (w := w) (base := base) (mg := mg) (CW := CW) (CD := CD) F42 F24 (g ga24) G24 F36 (g ga36) G36 F31 (g ga31) G31 F33 P33 G33 DK
  have G43 := ok_after (P := l.prog) (w := w) (base := base) (mg := mg) (CW := CW) (CD := CD) F43 F38 (g ga38) G38 F35 (g ga35) G35 DK
  have G44 := ok_deq (P := l.prog) (w := w) (base := base) (mg := mg) (CW := CW) (CD := CD) F44 (g aD) y19 ITD DK T_BltB F27 OEW G27
  have G45 := ok_dtot (P := l.prog) (w := w) (base := base) (mg := mg) (CW := CW) (CD := CD) F45 DK (zn z_list) (zn z_sum)
  have G46 := ok_plainp (P := l.prog) (w := w) (base := base) (mg := mg) (CW := CW) F46 F38 (g ga38) G38 F23 P23 G23 WK (zn z_list) (zn z_min)
  have G47 := ok_join (P := l.prog) (w := w) (base := base) (mg := mg) (CW := CW) F47 F38 (g ga38) G38 F26 (g ga26) G26 F23 P23 G23 WK (zn z_sum)
  have G48 := ok_lnone (P := l.prog) (w := w) (base := base) (mg := mg) F48 (zn z_dict)
  have G49 := ok_lstep (P := l.prog) (w := w) (base := base) (mg := mg) F49 (zn z_dict) (zn z_int)
  have G50 := ok_ladded (P := l.prog) (w := w) (base := base) (mg := mg) F50 (zn z_dict)
  have G51 := ok_lafter (P := l.prog) (w := w) (base := base) (mg := mg) F51 (zn z_dict)
  have G52 := ok_llent (P := l.prog) (w := w) (base := base) (mg := mg) F52 F51 (g ga51) G51 (zn z_dict) (zn z_int)
  have G53 := ok_ldmade (P := l.prog) (w := w) (base := base) (mg := mg) (CW := CW) (CD := CD) F53 F22 (g ga22) G22 F30 MkD (g aD) G30
  have G54 := ok_lisd (P := l.prog) (w := w) (base := base) (mg := mg) (CW := CW) (CD := CD) F54 F22 (g ga22) G22 (g aD) y19 ITD DK T_BltB (zn z_dict) (zn z_repr) F27 OEW G27 F32 P32 G32 F33 P33 G33
  have G55 := ok_lnum (P := l.prog) (w := w) (base := base) (mg := mg) F55 F1 (g ga1) G1
  have G56 := ok_lplan (P := l.prog) (w := w) (base := base) (mg := mg) F56 F55 (g ga55) G55 (zn z_dict)
  have G57 := ok_ldebts (P := l.prog) (w := w) (base := base) (mg := mg) F57 F55 (g ga55) G55 F2 (g ga2) G2 (zn z_dict) (zn z_sum)
  have G58 := ok_lplof (P := l.prog) (w := w) (base := base) (mg := mg) F58 (zn z_dict) (zn z_min) (zn z_sorted)
  obtain ⟨dsL, vdL, bdL⟩ := lent_bd D39
  obtain ⟨dsM, vdM, bdM⟩ := moved_bd D42
  have cs : Cs l.prog w K mg base CW CD := { roll := ⟨f1, _, G1, g ga1, gk1, (F1.binds fun _ _ _ _ _ _ us hl => match us, hl with | [_, _], _ => rfl)⟩, pick := ⟨f2, _, G2, g ga2, gk2, (F2.binds fun _ _ _ _ _ _ us hl => match us, hl with | [_, _], _ => rfl)⟩, num := ⟨f55, _, G55, g ga55, gk55, (F55.binds fun _ _ _ _ _ _ us hl => match us, hl with | [_], _ => rfl)⟩, made := ⟨f53, _, G53, g ga53, gk53, (F53.binds fun _ _ _ _ _ _ us hl => match us, hl with | [_, _], _ => rfl)⟩, lent := ⟨f52, _, G52, g ga52, gk52, (F52.binds fun _ _ _ _ _ _ us hl => match us, hl with | [_, _, _, _], _ => rfl)⟩, added := ⟨f50, _, G50, g ga50, gk50, (F50.binds fun _ _ _ _ _ _ us hl => match us, hl with | [_, _, _], _ => rfl)⟩, step := ⟨f49, _, G49, g ga49, gk49, (F49.binds fun _ _ _ _ _ _ us hl => match us, hl with | [_, _, _], _ => rfl)⟩, isd := ⟨f54, _, G54, g ga54, gk54, (F54.binds fun _ _ _ _ _ _ us hl => match us, hl with | [_, _, _], _ => rfl)⟩, mL := ⟨f39, _, M39, G39, dsL, vdL, bdL, lent_kb F39⟩, mM := ⟨f42, _, M42, G42, dsM, vdM, bdM, moved_kb F42⟩, mT := ⟨f41, _, M41, G41, (F41.binds fun _ _ _ _ _ _ us hl => match us, hl with | [_, _], _ => rfl)⟩, eq := ⟨f44, _, M44, G44, (F44.binds fun _ _ _ _ _ _ us hl => match us, hl with | [_, _], _ => rfl)⟩, oe := OED, dk := DK, tuple := zn z_tuple }
  have G59 := ok_lsteps (P := l.prog) (w := w) (base := base) (mg := mg) (CW := CW) (CD := CD) F59 cs
  have cp : Cp l.prog w K mg base CW CD := { web := ⟨f22, _, G22, g ga22, gk22, (F22.binds fun _ _ _ _ _ _ us hl => match us, hl with | [_], _ => rfl)⟩, plan := ⟨f56, _, G56, g ga56, gk56, (F56.binds fun _ _ _ _ _ _ us hl => match us, hl with | [_, _], _ => rfl)⟩, after := ⟨f51, _, G51, g ga51, gk51, (F51.binds fun _ _ _ _ _ _ us hl => match us, hl with | [_, _, _], _ => rfl)⟩, joined := ⟨f47, G47, g ga47, gk47⟩, plain := ⟨f46, _, G46, g ga46, gk46, (F46.binds fun _ _ _ _ _ _ us hl => match us, hl with | [_, _], _ => rfl)⟩, plof := ⟨f58, _, G58, g ga58, gk58, (F58.binds fun _ _ _ _ _ _ us hl => match us, hl with | [_], _ => rfl)⟩, nul := ⟨f48, _, G48, g ga48, gk48, (F48.binds fun _ _ _ _ _ _ us hl => match us, hl with | [_], _ => rfl)⟩, isp := ⟨f37, _, G37, g ga37, gk37, (F37.binds fun _ _ _ _ _ _ us hl => match us, hl with | [_, _], _ => rfl)⟩, mA := ⟨f43, _, M43, G43, (F43.binds fun _ _ _ _ _ _ us hl => match us, hl with | [_, _], _ => rfl)⟩, tot := ⟨f45, _, p45, P45, G45, (F45.binds fun _ _ _ _ _ _ us hl => match us, hl with | [_], _ => rfl)⟩, dict := zn z_dict, list := zn z_list, repr := zn z_repr, ty := ITD, nd := y29 }
  have G60 := ok_lplans (P := l.prog) (w := w) (base := base) (mg := mg) (CW := CW) (CD := CD) F60 cs cp
  have G61 := ok_line (P := l.prog) (w := w) (base := base) (mg := mg) F61
  have G62 := ok_dlines (P := l.prog) (w := w) (base := base) (mg := mg) (CW := CW) (CD := CD) F62 DK F61 (g ga61) G61 (zn z_tuple)
  have G63 := ok_lwri (P := l.prog) (w := w) (base := base) (mg := mg) F63 F17 (g ga17) G17 F18 (g ga18) G18
  have cq : Cq l.prog w K mg base CW CD := { dice := ⟨f3, _, G3, g ga3, gk3, (F3.binds fun _ _ _ _ _ _ us hl => match us, hl with | [_, _], _ => rfl)⟩, web := ⟨f21, _, G21, g ga21, gk21, (F21.binds fun _ _ _ _ _ _ us hl => match us, hl with | [_, _, _], _ => rfl)⟩, debts := ⟨f57, _, G57, g ga57, gk57, (F57.binds fun _ _ _ _ _ _ us hl => match us, hl with | [_, _, _], _ => rfl)⟩, steps := ⟨f59, _, G59, g ga59, gk59, (F59.binds fun _ _ _ _ _ _ us hl => match us, hl with | [_, _, _], _ => rfl)⟩, plans := ⟨f60, _, G60, g ga60, gk60, (F60.binds fun _ _ _ _ _ _ us hl => match us, hl with | [_, _, _], _ => rfl)⟩, wri := ⟨f63, _, G63, g ga63, gk63, (F63.binds fun _ _ _ _ _ _ us hl => match us, hl with | [_], _ => rfl)⟩, lines := ⟨f62, _, p62, P62, G62, (F62.binds fun _ _ _ _ _ _ us hl => match us, hl with | [_], _ => rfl)⟩, gi := f30, gid := _, mki := MkD, gD := g aD, ini := G30, bi := (F30.binds fun _ _ _ _ _ _ us hl => match us, hl with | [_, _, _], _ => rfl), T := T_BltM }
  exact ok_law F64 cs cp cq
end OwW

/-! A head by one kernel run, whose Hook sees defs by any way (a property's getter too) and asks one more Bool. -/
namespace OwHd
open PySem PySem.Spec PyProof.Rows L2
/-- a def, the way to it, its keyword-only defaults -/
structure Df where
  way : PySem.W.Frag → Addr
  nm : Str
  qn : Str
  st : Stmt
  kw : List (Str × V)
abbrev Sight : Type := Option ((Str × Str × Arguments) × (FuncBody × Scope) × (Addr × List (Str × Addr) × Addr) × Value)
def sight (K : PySem.W.Frag) (a : Addr) : Sight := (K.lookup a).bind fun o => match o.data with
  | .func d => some ((d.name, d.qualname, d.params), (d.body, d.scope), (d.globals, d.closure, d.builtins), d.defaults)
  | _ => none
def Df.due (d : Df) : Sight := some ((d.nm, d.qn, defArgs d.st), (.stmts (defBody d.st), defScope d.st), (mainGlobals, [], builtinsNs), .none)
def Df.good (K : PySem.W.Frag) (d : Df) : Bool := PySem.W.keepIn K (.ref (d.way K)) && (match K.lookup (d.way K) with
  | some o => (match o.data with
    | .func u => PySem.W.codeIn K u.code d.qn && (d.kw.isEmpty || He.kwdB K u.kwdefaults d.kw)
    | _ => false)
  | none => false)
theorem Df.at_ {K : PySem.W.Frag} {d : Df} (e : sight K (d.way K) = d.due) (c : d.good K = true) : ∃ (oc : Value) (od : Option Addr) (kV doc pm : Value) (an : Option Addr) (cdv ct : Value) (osl : Array (Option Value)),
    K.lookup (d.way K) = some ⟨oc, od, .func (PySem.W.fnOf d.nm d.qn (defArgs d.st) (defBody d.st) (defScope d.st) .none kV doc pm an cdv ct), osl⟩ ∧ PySem.W.codeIn K cdv d.qn = true ∧ PySem.W.keepIn K (.ref (d.way K)) = true ∧ (d.kw = [] ∨ KwdV K kV d.kw) := by
  unfold Df.good at c
  rw [Bool.and_eq_true] at c
  obtain ⟨kp, c⟩ := c
  unfold sight Df.due at e
  cases q : K.lookup (d.way K) with
  | none =>
    rw [q] at e
    exact nomatch e
  | some o =>
    obtain ⟨oc, od, dt, osl⟩ := o
    rw [q] at e c
    cases dt with
    | func fd =>
      obtain ⟨a1, a2, a3, a4, a5, a6, a7, a8, a9, a10, a11, a12, a13, a14, a15⟩ := fd
      simp only [Option.bind_some, Option.some.injEq, Prod.mk.injEq] at e
      obtain ⟨⟨h1, h2, h3⟩, ⟨h4, h5⟩, ⟨h6, h7, h8⟩, h9⟩ := e
      subst h1 h2 h3 h4 h5 h6 h7 h8 h9
      simp only [Bool.and_eq_true, Bool.or_eq_true] at c
      obtain ⟨c1, c2⟩ := c
      refine ⟨oc, od, a9, a10, a11, a12, a13, a14, osl, rfl, c1, kp, ?_⟩
      rcases c2 with c2 | c2
      · exact .inl (List.isEmpty_iff.mp c2)
      · exact .inr (He.kwdB_ok c2)
    | _ => exact nomatch e
abbrev Al : Type := List Sight × Bool
def seen (fn : List Df) (ex : PySem.W.Frag → Bool) (K : PySem.W.Frag) : Al := (fn.map fun d => sight K (d.way K), (fn.all fun d => d.good K) && ex K)
def due (fn : List Df) : Al := (fn.map Df.due, true)
def Says (fn : List Df) (ex : PySem.W.Frag → Bool) (K : PySem.W.Frag) : Prop := seen fn ex K = due fn
def seenAt (az : (Addr → Option Obj) → List Addr) (fn : List Df) (ex : PySem.W.Frag → Bool) (g : Addr → Option Obj) : Al := seen fn ex (He.frG g (az g))
def hook (az : (Addr → Option Obj) → List Addr) (fn : List Df) (ex : PySem.W.Frag → Bool) : PySem.W.Hook where
  α := Al
  obs := fun s => seenAt az fn ex s.heap.get?
  val := fun _ => due fn
  says := fun _ h => ∃ K : PySem.W.Frag, K.In h ∧ Says fn ex K
  of := fun _ s e => ⟨He.frG s.heap.get? (az s.heap.get?), He.frG_in, e⟩
  keeps := fun _ _ _ z k => z.elim fun K y => ⟨K, y.1.keeps k, y.2⟩
theorem seenAt_eq {az : (Addr → Option Obj) → List Addr} {fn : List Df} {ex : PySem.W.Frag → Bool} {g : Addr → Option Obj} {s : Shared} (h : ∀ a, g a = s.heap.get? a) : seenAt az fn ex g = (hook az fn ex).obs s := by
  rw [show g = s.heap.get? from funext h]
  rfl
section
variable {fn : List Df} {ex : PySem.W.Frag → Bool} {K : PySem.W.Frag}
theorem Says.ex_ (c : Says fn ex K) : ex K = true := by
  have z : ((fn.all fun d => d.good K) && ex K) = true := congrArg Prod.snd c
  rw [Bool.and_eq_true] at z
  exact z.2
theorem Says.df (c : Says fn ex K) (i : Nat) {d : Df} (h : fn[i]? = some d) : sight K (d.way K) = d.due ∧ d.good K = true := by
  have z : ((fn.all fun d => d.good K) && ex K) = true := congrArg Prod.snd c
  rw [Bool.and_eq_true] at z
  have y : (fn.map fun d => sight K (d.way K)) = fn.map Df.due := congrArg Prod.fst c
  have x : (fn.map fun d => sight K (d.way K))[i]? = (fn.map Df.due)[i]? := by rw [y]
  rw [List.getElem?_map, List.getElem?_map, h] at x
  exact ⟨Option.some.inj x, List.all_eq_true.mp z.1 d (List.mem_of_getElem? h)⟩
end
/-! ways and tests -/
def glo (x : Str) (K : PySem.W.Frag) : Addr := He.ga K x
def met (C m : Str) (K : PySem.W.Frag) : Addr := He.ma K (He.ga K C) m
def recs (C m : Str) (K : PySem.W.Frag) : List Value := (PySem.W.recIn K (met C m K) "property").getD []
def get_ (C m : Str) (K : PySem.W.Frag) : Addr := match recs C m K with
  | .ref f :: _ => f
  | _ => 0
def intB (K : PySem.W.Frag) (x : Str) (i : Int) : Bool := match PySem.W.nsIn K mainGlobals x with
  | some (some (.int j _)) => j == i
  | _ => false
theorem intB_ok {K : PySem.W.Frag} {x : Str} {i : Int} (h : intB K x i = true) : ∃ t, PySem.W.nsIn K mainGlobals x = some (some (.int i t)) := by
  unfold intB at h
  split at h
  · rename_i j t e
    rw [e]
    exact ⟨t, by rw [eq_of_beq h]⟩
  · exact nomatch h
end OwHd

namespace OwX
open PySem PySem.Spec PyProof.Rows L2
/-- a law over a head by facts, where no guard stands -/
theorem walk_ofGE {l : PySem.W.OpenLaw} {n k : Nat} {x : Str} {q : Program} {loose : List Str} {XP : (Str → Option Value) → Heap → Prop} {YP : World → Heap → Prop} {d : DefRec} (hn : l.most = some n) (hn2 : n ≤ sizeLine) (hdf : d.params.defaults = []) (hr : Room k callerA)
    (F : ∀ (w : World) (mg : Str → Option Value) (fa : Addr) (h : Heap), YP w h → h.Ns mainGlobals mg → mg d.name = some (.ref fa) →
      ∃ (K : PySem.W.Frag) (fd : FuncData) (sp : Sp), (K.In h ∧ ∀ (s : Shared) (u : Value), BindsTo s fd ⟨[u], []⟩ [(x, u)]) ∧ (∀ (H : Hp) (a : Addr) (ns : List Int), SqL K H a (ns.map V.int) → sp [.ref a] H (fun v _ => v = .bl true) fun _ _ _ => False) ∧
        ∀ base : Heap, K.In base → base.Ns mainGlobals mg → GFn l.prog w K mg base (L2.CX l.prog w) k fa fd [x] sp) : PySem.W.WalkO q loose XP YP l.row.toRowW d [] (fun f vs => PySem.call f vs) := by
  refine Att.attach_call hn hdf fun w _ s1 mg mb fa _ _ _ _ a us ns G Y _ _ _ hmg ga hi hlen hg => ?_
  obtain ⟨K, fd, sp, ⟨KX, hb⟩, hs, GF⟩ := F w mg fa _ Y G.T.g hmg
  exact law_callG KX G.T.g G.T.b G.T.builtins G.T.nolimit hg ga hi (Nat.le_trans hlen hn2) hr GF hb fun H sq => hs H a ns sq
end OwX
namespace OwW
open PySem PyProof.Rows L2 L2H OwX Rd Evl
abbrev D1 : OwHd.Df := ⟨OwHd.glo "_law_roll", "_law_roll", "_law_roll", sRoll, []⟩
abbrev D2 : OwHd.Df := ⟨OwHd.glo "_law_pick", "_law_pick", "_law_pick", sPick, []⟩
abbrev D3 : OwHd.Df := ⟨OwHd.glo "_law_dice", "_law_dice", "_law_dice", sDice, []⟩
abbrev D4 : OwHd.Df := ⟨OwHd.glo "is_integer", "is_integer", "is_integer", sInteger, []⟩
abbrev D5 : OwHd.Df := ⟨OwHd.glo "_is_whole", "_is_whole", "_is_whole", sWhole, []⟩
abbrev D6 : OwHd.Df := ⟨OwHd.glo "is_name", "is_name", "is_name", sName, []⟩
abbrev D7 : OwHd.Df := ⟨OwHd.glo "are_names", "are_names", "are_names", sNames, []⟩
abbrev D8 : OwHd.Df := ⟨OwHd.glo "_law_mixed", "_law_mixed", "_law_mixed", sMixed, []⟩
abbrev D9 : OwHd.Df := ⟨OwHd.glo "is_tie", "is_tie", "is_tie", sIsTie, []⟩
abbrev D10 : OwHd.Df := ⟨OwHd.glo "ascends", "ascends", "ascends", sAsc, []⟩
abbrev D11 : OwHd.Df := ⟨OwHd.glo "_ends_off", "_ends_off", "_ends_off", sEnds, []⟩
abbrev D12 : OwHd.Df := ⟨OwHd.glo "reached_along", "reached_along", "reached_along", sReach, []⟩
abbrev D13 : OwHd.Df := ⟨OwHd.glo "_are_places", "_are_places", "_are_places", sPlaces, []⟩
abbrev D14 : OwHd.Df := ⟨OwHd.glo "_are_ties", "_are_ties", "_are_ties", sTies, []⟩
abbrev D15 : OwHd.Df := ⟨OwHd.glo "_is_web", "_is_web", "_is_web", sIsWeb, []⟩
abbrev D16 : OwHd.Df := ⟨OwHd.met "Web" "__init__", "__init__", "Web.__init__", sInit, []⟩
abbrev D17 : OwHd.Df := ⟨OwHd.glo "_law_tie", "_law_tie", "_law_tie", sTie, []⟩
abbrev D18 : OwHd.Df := ⟨OwHd.glo "_law_plain", "_law_plain", "_law_plain", sPlain, []⟩
abbrev D19 : OwHd.Df := ⟨OwHd.glo "_law_names", "_law_names", "_law_names", sLNames, []⟩
abbrev D20 : OwHd.Df := ⟨OwHd.glo "_law_pairs", "_law_pairs", "_law_pairs", sPairs, []⟩
abbrev D21 : OwHd.Df := ⟨OwHd.glo "_law_web", "_law_web", "_law_web", sLWeb, []⟩
abbrev D22 : OwHd.Df := ⟨OwHd.glo "_law_made", "_law_made", "_law_made", sMade, []⟩
abbrev D23 : OwHd.Df := ⟨OwHd.get_ "Web" "places", "places", "Web.places", sWPlaces, []⟩
abbrev D24 : OwHd.Df := ⟨OwHd.glo "need_place", "need_place", "need_place", sNeedP, []⟩
abbrev D25 : OwHd.Df := ⟨OwHd.met "Web" "neighbours", "neighbours", "Web.neighbours", sWNear, []⟩
abbrev D26 : OwHd.Df := ⟨OwHd.glo "need_web", "need_web", "need_web", sNeedW, []⟩
abbrev D27 : OwHd.Df := ⟨OwHd.met "Web" "__eq__", "__eq__", "Web.__eq__", sWEq, []⟩
abbrev D28 : OwHd.Df := ⟨OwHd.glo "has_just_keys", "has_just_keys", "has_just_keys", sJustT, []⟩
abbrev D29 : OwHd.Df := ⟨OwHd.glo "_are_numbers", "_are_numbers", "_are_numbers", sNumbers, []⟩
abbrev D30 : OwHd.Df := ⟨OwHd.met "Debts" "__init__", "__init__", "Debts.__init__", sDInit, []⟩
abbrev D31 : OwHd.Df := ⟨OwHd.glo "made_debts", "made_debts", "made_debts", sMDebts, []⟩
abbrev D32 : OwHd.Df := ⟨OwHd.get_ "Debts" "web", "web", "Debts.web", sDWeb, []⟩
abbrev D33 : OwHd.Df := ⟨OwHd.get_ "Debts" "amounts", "amounts", "Debts.amounts", sDAm, []⟩
abbrev D34 : OwHd.Df := ⟨OwHd.glo "lent_amounts", "lent_amounts", "lent_amounts", sLentA, []⟩
abbrev D35 : OwHd.Df := ⟨OwHd.glo "lent_by", "lent_by", "lent_by", sLentBy, []⟩
abbrev D36 : OwHd.Df := ⟨OwHd.glo "_need_many", "_need_many", "_need_many", sNeedM, []⟩
abbrev D37 : OwHd.Df := ⟨OwHd.glo "is_plan", "is_plan", "is_plan", sIsPlan, []⟩
abbrev D38 : OwHd.Df := ⟨OwHd.glo "_need_plan", "_need_plan", "_need_plan", sNeedPl, []⟩
abbrev D39 : OwHd.Df := ⟨OwHd.met "Debts" "lent", "lent", "Debts.lent", sLent, [("many", V.int 1)]⟩
abbrev D40 : OwHd.Df := ⟨OwHd.glo "is_place_set", "is_place_set", "is_place_set", sPlSet, []⟩
abbrev D41 : OwHd.Df := ⟨OwHd.met "Debts" "lent_together", "lent_together", "Debts.lent_together", sLentT, []⟩
abbrev D42 : OwHd.Df := ⟨OwHd.met "Debts" "moved", "moved", "Debts.moved", sMoved, [("many", V.int 1)]⟩
abbrev D43 : OwHd.Df := ⟨OwHd.met "Debts" "after", "after", "Debts.after", sAfter, []⟩
abbrev D44 : OwHd.Df := ⟨OwHd.met "Debts" "__eq__", "__eq__", "Debts.__eq__", sDEq, []⟩
abbrev D45 : OwHd.Df := ⟨OwHd.get_ "Debts" "total", "total", "Debts.total", sDTot, []⟩
abbrev D46 : OwHd.Df := ⟨OwHd.glo "plain_plan", "plain_plan", "plain_plan", sPPlan, []⟩
abbrev D47 : OwHd.Df := ⟨OwHd.glo "joined_plans", "joined_plans", "joined_plans", sJoin, []⟩
abbrev D48 : OwHd.Df := ⟨OwHd.glo "_law_none", "_law_none", "_law_none", sLNone, []⟩
abbrev D49 : OwHd.Df := ⟨OwHd.glo "_law_step", "_law_step", "_law_step", sLStep, []⟩
abbrev D50 : OwHd.Df := ⟨OwHd.glo "_law_added", "_law_added", "_law_added", sLAdded, []⟩
abbrev D51 : OwHd.Df := ⟨OwHd.glo "_law_after", "_law_after", "_law_after", sLAfter, []⟩
abbrev D52 : OwHd.Df := ⟨OwHd.glo "_law_lent", "_law_lent", "_law_lent", sLLent, []⟩
abbrev D53 : OwHd.Df := ⟨OwHd.glo "_law_debts_made", "_law_debts_made", "_law_debts_made", sLDMade, []⟩
abbrev D54 : OwHd.Df := ⟨OwHd.glo "_law_is_debts", "_law_is_debts", "_law_is_debts", sLIsD, []⟩
abbrev D55 : OwHd.Df := ⟨OwHd.glo "_law_number", "_law_number", "_law_number", sLNum, []⟩
abbrev D56 : OwHd.Df := ⟨OwHd.glo "_law_plan_drawn", "_law_plan_drawn", "_law_plan_drawn", sLPlan, []⟩
abbrev D57 : OwHd.Df := ⟨OwHd.glo "_law_debts", "_law_debts", "_law_debts", sLDebts, []⟩
abbrev D58 : OwHd.Df := ⟨OwHd.glo "_law_plain_of", "_law_plain_of", "_law_plain_of", sLPlOf, []⟩
abbrev D59 : OwHd.Df := ⟨OwHd.glo "_law_steps_right", "_law_steps_right", "_law_steps_right", sLSteps, []⟩
abbrev D60 : OwHd.Df := ⟨OwHd.glo "_law_plans_right", "_law_plans_right", "_law_plans_right", sLPlans, []⟩
abbrev D61 : OwHd.Df := ⟨OwHd.glo "_line", "_line", "_line", sLine, []⟩
abbrev D62 : OwHd.Df := ⟨OwHd.get_ "Debts" "lines", "lines", "Debts.lines", sDLines, []⟩
abbrev D63 : OwHd.Df := ⟨OwHd.glo "_law_written", "_law_written", "_law_written", sLWri, []⟩
abbrev D64 : OwHd.Df := ⟨OwHd.glo "law", "law", "law", sLaw, []⟩
def ex0 (K : PySem.W.Frag) : Bool :=
  decide (PySem.W.nsIn K mainGlobals "Web" = some (some (.ref (OwHd.glo "Web" K)))) && (decide (PySem.W.nsIn K mainGlobals "Debts" = some (some (.ref (OwHd.glo "Debts" K)))) && (decide (PySem.W.nsIn K mainGlobals "_law_roll" = some (some (.ref (OwHd.glo "_law_roll" K)))) && (decide (PySem.W.nsIn K mainGlobals "_law_pick" = some (some (.ref (OwHd.glo "_law_pick" K)))) && (decide (PySem.W.nsIn K mainGlobals "_law_dice" = some (some (.ref (OwHd.glo "_law_dice" K)))) && (decide (PySem.W.nsIn K mainGlobals "is_integer" = some (some (.ref (OwHd.glo "is_integer" K)))) && (decide (PySem.W.nsIn K mainGlobals "_is_whole" = some (some (.ref (OwHd.glo "_is_whole" K)))) && (decide (PySem.W.nsIn K mainGlobals "is_name" = some (some (.ref (OwHd.glo "is_name" K)))) && (decide (PySem.W.nsIn K mainGlobals "are_names" = some (some (.ref (OwHd.glo "are_names" K)))) && (decide (PySem.W.nsIn K mainGlobals "_law_mixed" = some (some (.ref (OwHd.glo "_law_mixed" K)))) && (decide (PySem.W.nsIn K mainGlobals "is_tie" = some (some (.ref (OwHd.glo "is_tie" K)))) && (decide (PySem.W.nsIn K mainGlobals "ascends" = some (some (.ref (OwHd.glo "ascends" K)))) && (decide (PySem.W.nsIn K mainGlobals "_ends_off" = some (some (.ref (OwHd.glo "_ends_off" K)))) && (decide (PySem.W.nsIn K mainGlobals "reached_along" = some (some (.ref (OwHd.glo "reached_along" K)))) && (decide (PySem.W.nsIn K mainGlobals "_are_places" = some (some (.ref (OwHd.glo "_are_places" K)))) && (decide (PySem.W.nsIn K mainGlobals "_are_ties" = some (some (.ref (OwHd.glo "_are_ties" K)))) && (decide (PySem.W.nsIn K mainGlobals "_is_web" = some (some (.ref (OwHd.glo "_is_web" K)))) && (decide (PySem.W.findIn K (.ref (OwHd.glo "Web" K)) "__init__" = some (some (.ref (OwHd.met "Web" "__init__" K)))) && (decide (PySem.W.nsIn K mainGlobals "_law_tie" = some (some (.ref (OwHd.glo "_law_tie" K)))) && (decide (PySem.W.nsIn K mainGlobals "_law_plain" = some (some (.ref (OwHd.glo "_law_plain" K)))) && (decide (PySem.W.nsIn K mainGlobals "_law_names" = some (some (.ref (OwHd.glo "_law_names" K)))) && (decide (PySem.W.nsIn K mainGlobals "_law_pairs" = some (some (.ref (OwHd.glo "_law_pairs" K)))) && (decide (PySem.W.nsIn K mainGlobals "_law_web" = some (some (.ref (OwHd.glo "_law_web" K)))) && (decide (PySem.W.nsIn K mainGlobals "_law_made" = some (some (.ref (OwHd.glo "_law_made" K)))) && (decide (PySem.W.findIn K (.ref (OwHd.glo "Web" K)) "places" = some (some (.ref (OwHd.met "Web" "places" K)))) && (decide (PySem.W.recIn K (OwHd.met "Web" "places" K) "property" = some (.ref (OwHd.get_ "Web" "places" K) :: (OwHd.recs "Web" "places" K).tail)) && (decide (PySem.W.nsIn K mainGlobals "need_place" = some (some (.ref (OwHd.glo "need_place" K)))) && (decide (PySem.W.findIn K (.ref (OwHd.glo "Web" K)) "neighbours" = some (some (.ref (OwHd.met "Web" "neighbours" K)))) && (decide (PySem.W.nsIn K mainGlobals "need_web" = some (some (.ref (OwHd.glo "need_web" K)))) && (decide (PySem.W.findIn K (.ref (OwHd.glo "Web" K)) "__eq__" = some (some (.ref (OwHd.met "Web" "__eq__" K)))))))))))))))))))))))))))))))))
def ex1 (K : PySem.W.Frag) : Bool :=
  decide (PySem.W.nsIn K mainGlobals "has_just_keys" = some (some (.ref (OwHd.glo "has_just_keys" K)))) && (decide (PySem.W.nsIn K mainGlobals "_are_numbers" = some (some (.ref (OwHd.glo "_are_numbers" K)))) && (decide (PySem.W.findIn K (.ref (OwHd.glo "Debts" K)) "__init__" = some (some (.ref (OwHd.met "Debts" "__init__" K)))) && (decide (PySem.W.nsIn K mainGlobals "made_debts" = some (some (.ref (OwHd.glo "made_debts" K)))) && (decide (PySem.W.findIn K (.ref (OwHd.glo "Debts" K)) "web" = some (some (.ref (OwHd.met "Debts" "web" K)))) && (decide (PySem.W.recIn K (OwHd.met "Debts" "web" K) "property" = some (.ref (OwHd.get_ "Debts" "web" K) :: (OwHd.recs "Debts" "web" K).tail)) && (decide (PySem.W.findIn K (.ref (OwHd.glo "Debts" K)) "amounts" = some (some (.ref (OwHd.met "Debts" "amounts" K)))) && (decide (PySem.W.recIn K (OwHd.met "Debts" "amounts" K) "property" = some (.ref (OwHd.get_ "Debts" "amounts" K) :: (OwHd.recs "Debts" "amounts" K).tail)) && (decide (PySem.W.nsIn K mainGlobals "lent_amounts" = some (some (.ref (OwHd.glo "lent_amounts" K)))) && (decide (PySem.W.nsIn K mainGlobals "lent_by" = some (some (.ref (OwHd.glo "lent_by" K)))) && (decide (PySem.W.nsIn K mainGlobals "_need_many" = some (some (.ref (OwHd.glo "_need_many" K)))) && (decide (PySem.W.nsIn K mainGlobals "is_plan" = some (some (.ref (OwHd.glo "is_plan" K)))) && (decide (PySem.W.nsIn K mainGlobals "_need_plan" = some (some (.ref (OwHd.glo "_need_plan" K)))) && (decide (PySem.W.findIn K (.ref (OwHd.glo "Debts" K)) "lent" = some (some (.ref (OwHd.met "Debts" "lent" K)))) && (decide (PySem.W.nsIn K mainGlobals "is_place_set" = some (some (.ref (OwHd.glo "is_place_set" K)))) && (decide (PySem.W.findIn K (.ref (OwHd.glo "Debts" K)) "lent_together" = some (some (.ref (OwHd.met "Debts" "lent_together" K)))) && (decide (PySem.W.findIn K (.ref (OwHd.glo "Debts" K)) "moved" = some (some (.ref (OwHd.met "Debts" "moved" K)))) && (decide (PySem.W.findIn K (.ref (OwHd.glo "Debts" K)) "after" = some (some (.ref (OwHd.met "Debts" "after" K)))) && (decide (PySem.W.findIn K (.ref (OwHd.glo "Debts" K)) "__eq__" = some (some (.ref (OwHd.met "Debts" "__eq__" K)))) && (decide (PySem.W.findIn K (.ref (OwHd.glo "Debts" K)) "total" = some (some (.ref (OwHd.met "Debts" "total" K)))) && (decide (PySem.W.recIn K (OwHd.met "Debts" "total" K) "property" = some (.ref (OwHd.get_ "Debts" "total" K) :: (OwHd.recs "Debts" "total" K).tail)) && (decide (PySem.W.nsIn K mainGlobals "plain_plan" = some (some (.ref (OwHd.glo "plain_plan" K)))) && (decide (PySem.W.nsIn K mainGlobals "joined_plans" = some (some (.ref (OwHd.glo "joined_plans" K)))) && (decide (PySem.W.nsIn K mainGlobals "_law_none" = some (some (.ref (OwHd.glo "_law_none" K)))) && (decide (PySem.W.nsIn K mainGlobals "_law_step" = some (some (.ref (OwHd.glo "_law_step" K)))) && (decide (PySem.W.nsIn K mainGlobals "_law_added" = some (some (.ref (OwHd.glo "_law_added" K)))) && (decide (PySem.W.nsIn K mainGlobals "_law_after" = some (some (.ref (OwHd.glo "_law_after" K)))) && (decide (PySem.W.nsIn K mainGlobals "_law_lent" = some (some (.ref (OwHd.glo "_law_lent" K)))) && (decide (PySem.W.nsIn K mainGlobals "_law_debts_made" = some (some (.ref (OwHd.glo "_law_debts_made" K)))) && (decide (PySem.W.nsIn K mainGlobals "_law_is_debts" = some (some (.ref (OwHd.glo "_law_is_debts" K)))))))))))))))))))))))))))))))))
def ex2 (K : PySem.W.Frag) : Bool :=
  decide (PySem.W.nsIn K mainGlobals "_law_number" = some (some (.ref (OwHd.glo "_law_number" K)))) && (decide (PySem.W.nsIn K mainGlobals "_law_plan_drawn" = some (some (.ref (OwHd.glo "_law_plan_drawn" K)))) && (decide (PySem.W.nsIn K mainGlobals "_law_debts" = some (some (.ref (OwHd.glo "_law_debts" K)))) && (decide (PySem.W.nsIn K mainGlobals "_law_plain_of" = some (some (.ref (OwHd.glo "_law_plain_of" K)))) && (decide (PySem.W.nsIn K mainGlobals "_law_steps_right" = some (some (.ref (OwHd.glo "_law_steps_right" K)))) && (decide (PySem.W.nsIn K mainGlobals "_law_plans_right" = some (some (.ref (OwHd.glo "_law_plans_right" K)))) && (decide (PySem.W.nsIn K mainGlobals "_line" = some (some (.ref (OwHd.glo "_line" K)))) && (decide (PySem.W.findIn K (.ref (OwHd.glo "Debts" K)) "lines" = some (some (.ref (OwHd.met "Debts" "lines" K)))) && (decide (PySem.W.recIn K (OwHd.met "Debts" "lines" K) "property" = some (.ref (OwHd.get_ "Debts" "lines" K) :: (OwHd.recs "Debts" "lines" K).tail)) && (decide (PySem.W.nsIn K mainGlobals "_law_written" = some (some (.ref (OwHd.glo "_law_written" K)))) && (decide (PySem.W.nsIn K mainGlobals "law" = some (some (.ref (OwHd.glo "law" K)))) && (decide (PySem.W.nsIn K mainGlobals "abs" = some none) && (decide (PySem.W.nsIn K mainGlobals "all" = some none) && (decide (PySem.W.nsIn K mainGlobals "bool" = some none) && (decide (PySem.W.nsIn K mainGlobals "dict" = some none) && (decide (PySem.W.nsIn K mainGlobals "int" = some none) && (decide (PySem.W.nsIn K mainGlobals "isinstance" = some none) && (decide (PySem.W.nsIn K mainGlobals "len" = some none) && (decide (PySem.W.nsIn K mainGlobals "list" = some none) && (decide (PySem.W.nsIn K mainGlobals "max" = some none) && (decide (PySem.W.nsIn K mainGlobals "min" = some none) && (decide (PySem.W.nsIn K mainGlobals "range" = some none) && (decide (PySem.W.nsIn K mainGlobals "repr" = some none) && (decide (PySem.W.nsIn K mainGlobals "set" = some none) && (decide (PySem.W.nsIn K mainGlobals "sorted" = some none) && (decide (PySem.W.nsIn K mainGlobals "str" = some none) && (decide (PySem.W.nsIn K mainGlobals "sum" = some none) && (decide (PySem.W.nsIn K mainGlobals "tuple" = some none) && (decide (PySem.W.nsIn K mainGlobals "zip" = some none) && (OwHd.intB K "MAX_LETTERS" 8)))))))))))))))))))))))))))))
def ex3 (K : PySem.W.Frag) : Bool :=
  OwHd.intB K "MAX_PLACES" 9 && (OwHd.intB K "MAX_TIES" 18 && (clsB K (OwHd.glo "Web" K) (OwHd.glo "Debts" K) (OwHd.met "Web" "__init__" K) (OwHd.met "Web" "places" K) (OwHd.met "Web" "neighbours" K) (OwHd.met "Web" "__eq__" K) (OwHd.met "Debts" "__init__" K) (OwHd.met "Debts" "web" K) (OwHd.met "Debts" "amounts" K) (OwHd.met "Debts" "lent" K) (OwHd.met "Debts" "lent_together" K) (OwHd.met "Debts" "moved" K) (OwHd.met "Debts" "after" K) (OwHd.met "Debts" "__eq__" K) (OwHd.met "Debts" "total" K) (OwHd.met "Debts" "lines" K)))
def exs (K : PySem.W.Frag) : Bool := ex0 K && (ex1 K && (ex2 K && (ex3 K)))
def fns : List OwHd.Df := [D1, D2, D3, D4, D5, D6, D7, D8, D9, D10, D11, D12, D13, D14, D15, D16, D17, D18, D19, D20, D21, D22, D23, D24, D25, D26, D27, D28, D29, D30, D31, D32, D33, D34, D35, D36, D37, D38, D39, D40, D41, D42, D43, D44, D45, D46, D47, D48, D49, D50, D51, D52, D53, D54, D55, D56, D57, D58, D59, D60, D61, D62, D63, D64]
theorem facts_law {l : PySem.W.OpenLaw} {w : World} {K : PySem.W.Frag} {h : Heap} {mg : Str → Option Value} {fa : Addr} (X : K.In h) (G : h.Ns mainGlobals mg) (hfa : mg "law" = some (.ref fa)) (c : OwHd.Says fns exs K) : ∃ fd : FuncData, (∀ (s : Shared) (u : Value), BindsTo s fd ⟨[u], []⟩ [("_law_script", u)]) ∧ ∀ base : Heap, K.In base → base.Ns mainGlobals mg → GFn l.prog w K mg base (L2.CX l.prog w) 11 fa fd ["_law_script"] (spLaw K) := by
  have xx0 := c.ex_
  unfold exs at xx0
  simp only [Bool.and_eq_true] at xx0
  obtain ⟨u0, u1, u2, u3⟩ := xx0
  unfold ex0 at u0
  simp only [Bool.and_eq_true, decide_eq_true_eq] at u0
  obtain ⟨v_aW, v_aD, v_ga1, v_ga2, v_ga3, v_ga4, v_ga5, v_ga6, v_ga7, v_ga8, v_ga9, v_ga10, v_ga11, v_ga12, v_ga13, v_ga14, v_ga15, v_ga16, v_ga17, v_ga18, v_ga19, v_ga20, v_ga21, v_ga22, v_ga23, v_gr23, v_ga24, v_ga25, v_ga26, v_ga27⟩ := u0
  unfold ex1 at u1
  simp only [Bool.and_eq_true, decide_eq_true_eq] at u1
  obtain ⟨v_ga28, v_ga29, v_ga30, v_ga31, v_ga32, v_gr32, v_ga33, v_gr33, v_ga34, v_ga35, v_ga36, v_ga37, v_ga38, v_ga39, v_ga40, v_ga41, v_ga42, v_ga43, v_ga44, v_ga45, v_gr45, v_ga46, v_ga47, v_ga48, v_ga49, v_ga50, v_ga51, v_ga52, v_ga53, v_ga54⟩ := u1
  unfold ex2 at u2
  simp only [Bool.and_eq_true, decide_eq_true_eq] at u2
  obtain ⟨v_ga55, v_ga56, v_ga57, v_ga58, v_ga59, v_ga60, v_ga61, v_ga62, v_gr62, v_ga63, v_ga64, v_z_abs, v_z_all, v_z_bool, v_z_dict, v_z_int, v_z_isinstance, v_z_len, v_z_list, v_z_max, v_z_min, v_z_range, v_z_repr, v_z_set, v_z_sorted, v_z_str, v_z_sum, v_z_tuple, v_z_zip, v_m_MAX_LETTERS⟩ := u2
  unfold ex3 at u3
  simp only [Bool.and_eq_true, decide_eq_true_eq] at u3
  obtain ⟨v_m_MAX_PLACES, v_m_MAX_TIES, v_xx⟩ := u3
  obtain ⟨_, m_MAX_LETTERS⟩ := OwHd.intB_ok v_m_MAX_LETTERS
  obtain ⟨_, m_MAX_PLACES⟩ := OwHd.intB_ok v_m_MAX_PLACES
  obtain ⟨_, m_MAX_TIES⟩ := OwHd.intB_ok v_m_MAX_TIES
  have b1 := c.df 0 (d := D1) rfl
  obtain ⟨_, _, _, _, _, _, _, _, _, gl1, gc1, gk1, w1⟩ := OwHd.Df.at_ b1.1 b1.2
  have b2 := c.df 1 (d := D2) rfl
  obtain ⟨_, _, _, _, _, _, _, _, _, gl2, gc2, gk2, w2⟩ := OwHd.Df.at_ b2.1 b2.2
  have b3 := c.df 2 (d := D3) rfl
  obtain ⟨_, _, _, _, _, _, _, _, _, gl3, gc3, gk3, w3⟩ := OwHd.Df.at_ b3.1 b3.2
  have b4 := c.df 3 (d := D4) rfl
  obtain ⟨_, _, _, _, _, _, _, _, _, gl4, gc4, gk4, w4⟩ := OwHd.Df.at_ b4.1 b4.2
  have b5 := c.df 4 (d := D5) rfl
  obtain ⟨_, _, _, _, _, _, _, _, _, gl5, gc5, gk5, w5⟩ := OwHd.Df.at_ b5.1 b5.2
  have b6 := c.df 5 (d := D6) rfl
  obtain ⟨_, _, _, _, _, _, _, _, _, gl6, gc6, gk6, w6⟩ := OwHd.Df.at_ b6.1 b6.2
  have b7 := c.df 6 (d := D7) rfl
  obtain ⟨_, _, _, _, _, _, _, _, _, gl7, gc7, gk7, w7⟩ := OwHd.Df.at_ b7.1 b7.2
  have b8 := c.df 7 (d := D8) rfl
  obtain ⟨_, _, _, _, _, _, _, _, _, gl8, gc8, gk8, w8⟩ := OwHd.Df.at_ b8.1 b8.2
  have b9 := c.df 8 (d := D9) rfl
  obtain ⟨_, _, _, _, _, _, _, _, _, gl9, gc9, gk9, w9⟩ := OwHd.Df.at_ b9.1 b9.2
  have b10 := c.df 9 (d := D10) rfl
  obtain ⟨_, _, _, _, _, _, _, _, _, gl10, gc10, gk10, w10⟩ := OwHd.Df.at_ b10.1 b10.2
  have b11 := c.df 10 (d := D11) rfl
  obtain ⟨_, _, _, _, _, _, _, _, _, gl11, gc11, gk11, w11⟩ := OwHd.Df.at_ b11.1 b11.2
  have b12 := c.df 11 (d := D12) rfl
  obtain ⟨_, _, _, _, _, _, _, _, _, gl12, gc12, gk12, w12⟩ := OwHd.Df.at_ b12.1 b12.2
  have b13 := c.df 12 (d := D13) rfl
  obtain ⟨_, _, _, _, _, _, _, _, _, gl13, gc13, gk13, w13⟩ := OwHd.Df.at_ b13.1 b13.2
  have b14 := c.df 13 (d := D14) rfl
  obtain ⟨_, _, _, _, _, _, _, _, _, gl14, gc14, gk14, w14⟩ := OwHd.Df.at_ b14.1 b14.2
  have b15 := c.df 14 (d := D15) rfl
  obtain ⟨_, _, _, _, _, _, _, _, _, gl15, gc15, gk15, w15⟩ := OwHd.Df.at_ b15.1 b15.2
  have b16 := c.df 15 (d := D16) rfl
  obtain ⟨_, _, _, _, _, _, _, _, _, gl16, gc16, gk16, w16⟩ := OwHd.Df.at_ b16.1 b16.2
  have b17 := c.df 16 (d := D17) rfl
  obtain ⟨_, _, _, _, _, _, _, _, _, gl17, gc17, gk17, w17⟩ := OwHd.Df.at_ b17.1 b17.2
  have b18 := c.df 17 (d := D18) rfl
  obtain ⟨_, _, _, _, _, _, _, _, _, gl18, gc18, gk18, w18⟩ := OwHd.Df.at_ b18.1 b18.2
  have b19 := c.df 18 (d := D19) rfl
  obtain ⟨_, _, _, _, _, _, _, _, _, gl19, gc19, gk19, w19⟩ := OwHd.Df.at_ b19.1 b19.2
  have b20 := c.df 19 (d := D20) rfl
  obtain ⟨_, _, _, _, _, _, _, _, _, gl20, gc20, gk20, w20⟩ := OwHd.Df.at_ b20.1 b20.2
  have b21 := c.df 20 (d := D21) rfl
  obtain ⟨_, _, _, _, _, _, _, _, _, gl21, gc21, gk21, w21⟩ := OwHd.Df.at_ b21.1 b21.2
  have b22 := c.df 21 (d := D22) rfl
  obtain ⟨_, _, _, _, _, _, _, _, _, gl22, gc22, gk22, w22⟩ := OwHd.Df.at_ b22.1 b22.2
  have b23 := c.df 22 (d := D23) rfl
  obtain ⟨_, _, _, _, _, _, _, _, _, gl23, gc23, gk23, w23⟩ := OwHd.Df.at_ b23.1 b23.2
  have b24 := c.df 23 (d := D24) rfl
  obtain ⟨_, _, _, _, _, _, _, _, _, gl24, gc24, gk24, w24⟩ := OwHd.Df.at_ b24.1 b24.2
  have b25 := c.df 24 (d := D25) rfl
  obtain ⟨_, _, _, _, _, _, _, _, _, gl25, gc25, gk25, w25⟩ := OwHd.Df.at_ b25.1 b25.2
  have b26 := c.df 25 (d := D26) rfl
  obtain ⟨_, _, _, _, _, _, _, _, _, gl26, gc26, gk26, w26⟩ := OwHd.Df.at_ b26.1 b26.2
  have b27 := c.df 26 (d := D27) rfl
  obtain ⟨_, _, _, _, _, _, _, _, _, gl27, gc27, gk27, w27⟩ := OwHd.Df.at_ b27.1 b27.2
  have b28 := c.df 27 (d := D28) rfl
  obtain ⟨_, _, _, _, _, _, _, _, _, gl28, gc28, gk28, w28⟩ := OwHd.Df.at_ b28.1 b28.2
  have b29 := c.df 28 (d := D29) rfl
  obtain ⟨_, _, _, _, _, _, _, _, _, gl29, gc29, gk29, w29⟩ := OwHd.Df.at_ b29.1 b29.2
  have b30 := c.df 29 (d := D30) rfl
  obtain ⟨_, _, _, _, _, _, _, _, _, gl30, gc30, gk30, w30⟩ := OwHd.Df.at_ b30.1 b30.2
  have b31 := c.df 30 (d := D31) rfl
  obtain ⟨_, _, _, _, _, _, _, _, _, gl31, gc31, gk31, w31⟩ := OwHd.Df.at_ b31.1 b31.2
  have b32 := c.df 31 (d := D32) rfl
  obtain ⟨_, _, _, _, _, _, _, _, _, gl32, gc32, gk32, w32⟩ := OwHd.Df.at_ b32.1 b32.2
  have b33 := c.df 32 (d := D33) rfl
  obtain ⟨_, _, _, _, _, _, _, _, _, gl33, gc33, gk33, w33⟩ := OwHd.Df.at_ b33.1 b33.2
  have b34 := c.df 33 (d := D34) rfl
  obtain ⟨_, _, _, _, _, _, _, _, _, gl34, gc34, gk34, w34⟩ := OwHd.Df.at_ b34.1 b34.2
  have b35 := c.df 34 (d := D35) rfl
  obtain ⟨_, _, _, _, _, _, _, _, _, gl35, gc35, gk35, w35⟩ := OwHd.Df.at_ b35.1 b35.2
  have b36 := c.df 35 (d := D36) rfl
  obtain ⟨_, _, _, _, _, _, _, _, _, gl36, gc36, gk36, w36⟩ := OwHd.Df.at_ b36.1 b36.2
  have b37 := c.df 36 (d := D37) rfl
  obtain ⟨_, _, _, _, _, _, _, _, _, gl37, gc37, gk37, w37⟩ := OwHd.Df.at_ b37.1 b37.2
  have b38 := c.df 37 (d := D38) rfl
  obtain ⟨_, _, _, _, _, _, _, _, _, gl38, gc38, gk38, w38⟩ := OwHd.Df.at_ b38.1 b38.2
  have b39 := c.df 38 (d := D39) rfl
  obtain ⟨_, _, _, _, _, _, _, _, _, gl39, gc39, gk39, w39⟩ := OwHd.Df.at_ b39.1 b39.2
  rcases w39 with w39 | w39
  · exact nomatch w39
  rcases w39 with w39 | ⟨_, ek39, w39⟩
  · exact nomatch w39
  subst ek39
  obtain ⟨_, gw39, _, rfl⟩ := w39 ("many", V.int 1) (List.mem_singleton.mpr rfl)
  have b40 := c.df 39 (d := D40) rfl
  obtain ⟨_, _, _, _, _, _, _, _, _, gl40, gc40, gk40, w40⟩ := OwHd.Df.at_ b40.1 b40.2
  have b41 := c.df 40 (d := D41) rfl
  obtain ⟨_, _, _, _, _, _, _, _, _, gl41, gc41, gk41, w41⟩ := OwHd.Df.at_ b41.1 b41.2
  have b42 := c.df 41 (d := D42) rfl
  obtain ⟨_, _, _, _, _, _, _, _, _, gl42, gc42, gk42, w42⟩ := OwHd.Df.at_ b42.1 b42.2
  rcases w42 with w42 | w42
  · exact nomatch w42
  rcases w42 with w42 | ⟨_, ek42, w42⟩
  · exact nomatch w42
  subst ek42
  obtain ⟨_, gw42, _, rfl⟩ := w42 ("many", V.int 1) (List.mem_singleton.mpr rfl)
  have b43 := c.df 42 (d := D43) rfl
  obtain ⟨_, _, _, _, _, _, _, _, _, gl43, gc43, gk43, w43⟩ := OwHd.Df.at_ b43.1 b43.2
  have b44 := c.df 43 (d := D44) rfl
  obtain ⟨_, _, _, _, _, _, _, _, _, gl44, gc44, gk44, w44⟩ := OwHd.Df.at_ b44.1 b44.2
  have b45 := c.df 44 (d := D45) rfl
  obtain ⟨_, _, _, _, _, _, _, _, _, gl45, gc45, gk45, w45⟩ := OwHd.Df.at_ b45.1 b45.2
  have b46 := c.df 45 (d := D46) rfl
  obtain ⟨_, _, _, _, _, _, _, _, _, gl46, gc46, gk46, w46⟩ := OwHd.Df.at_ b46.1 b46.2
  have b47 := c.df 46 (d := D47) rfl
  obtain ⟨_, _, _, _, _, _, _, _, _, gl47, gc47, gk47, w47⟩ := OwHd.Df.at_ b47.1 b47.2
  have b48 := c.df 47 (d := D48) rfl
  obtain ⟨_, _, _, _, _, _, _, _, _, gl48, gc48, gk48, w48⟩ := OwHd.Df.at_ b48.1 b48.2
  have b49 := c.df 48 (d := D49) rfl
  obtain ⟨_, _, _, _, _, _, _, _, _, gl49, gc49, gk49, w49⟩ := OwHd.Df.at_ b49.1 b49.2
  have b50 := c.df 49 (d := D50) rfl
  obtain ⟨_, _, _, _, _, _, _, _, _, gl50, gc50, gk50, w50⟩ := OwHd.Df.at_ b50.1 b50.2
  have b51 := c.df 50 (d := D51) rfl
  obtain ⟨_, _, _, _, _, _, _, _, _, gl51, gc51, gk51, w51⟩ := OwHd.Df.at_ b51.1 b51.2
  have b52 := c.df 51 (d := D52) rfl
  obtain ⟨_, _, _, _, _, _, _, _, _, gl52, gc52, gk52, w52⟩ := OwHd.Df.at_ b52.1 b52.2
  have b53 := c.df 52 (d := D53) rfl
  obtain ⟨_, _, _, _, _, _, _, _, _, gl53, gc53, gk53, w53⟩ := OwHd.Df.at_ b53.1 b53.2
  have b54 := c.df 53 (d := D54) rfl
  obtain ⟨_, _, _, _, _, _, _, _, _, gl54, gc54, gk54, w54⟩ := OwHd.Df.at_ b54.1 b54.2
  have b55 := c.df 54 (d := D55) rfl
  obtain ⟨_, _, _, _, _, _, _, _, _, gl55, gc55, gk55, w55⟩ := OwHd.Df.at_ b55.1 b55.2
  have b56 := c.df 55 (d := D56) rfl
  obtain ⟨_, _, _, _, _, _, _, _, _, gl56, gc56, gk56, w56⟩ := OwHd.Df.at_ b56.1 b56.2
  have b57 := c.df 56 (d := D57) rfl
  obtain ⟨_, _, _, _, _, _, _, _, _, gl57, gc57, gk57, w57⟩ := OwHd.Df.at_ b57.1 b57.2
  have b58 := c.df 57 (d := D58) rfl
  obtain ⟨_, _, _, _, _, _, _, _, _, gl58, gc58, gk58, w58⟩ := OwHd.Df.at_ b58.1 b58.2
  have b59 := c.df 58 (d := D59) rfl
  obtain ⟨_, _, _, _, _, _, _, _, _, gl59, gc59, gk59, w59⟩ := OwHd.Df.at_ b59.1 b59.2
  have b60 := c.df 59 (d := D60) rfl
  obtain ⟨_, _, _, _, _, _, _, _, _, gl60, gc60, gk60, w60⟩ := OwHd.Df.at_ b60.1 b60.2
  have b61 := c.df 60 (d := D61) rfl
  obtain ⟨_, _, _, _, _, _, _, _, _, gl61, gc61, gk61, w61⟩ := OwHd.Df.at_ b61.1 b61.2
  have b62 := c.df 61 (d := D62) rfl
  obtain ⟨_, _, _, _, _, _, _, _, _, gl62, gc62, gk62, w62⟩ := OwHd.Df.at_ b62.1 b62.2
  have b63 := c.df 62 (d := D63) rfl
  obtain ⟨_, _, _, _, _, _, _, _, _, gl63, gc63, gk63, w63⟩ := OwHd.Df.at_ b63.1 b63.2
  have b64 := c.df 63 (d := D64) rfl
  obtain ⟨_, _, _, _, _, _, _, _, _, gl64, gc64, gk64, w64⟩ := OwHd.Df.at_ b64.1 b64.2
  exact all_mk X G hfa v_aW v_aD v_ga1 gl1 gc1 gk1 v_ga2 gl2 gc2 gk2 v_ga3 gl3 gc3 gk3 v_ga4 gl4 gc4 gk4 v_ga5 gl5 gc5 gk5 v_ga6 gl6 gc6 gk6 v_ga7 gl7 gc7 gk7 v_ga8 gl8 gc8 gk8 v_ga9 gl9 gc9 gk9 v_ga10 gl10 gc10 gk10 v_ga11 gl11 gc11 gk11 v_ga12 gl12 gc12 gk12 v_ga13 gl13 gc13 gk13 v_ga14 gl14 gc14 gk14 v_ga15 gl15 gc15 gk15 v_ga16 gl16 gc16 gk16 v_ga17 gl17 gc17 gk17 v_ga18 gl18 gc18 gk18 v_ga19 gl19 gc19 gk19 v_ga20 gl20 gc20 gk20 v_ga21 gl21 gc21 gk21 v_ga22 gl22 gc22 gk22 v_ga23 v_gr23 gl23 gc23 gk23 v_ga24 gl24 gc24 gk24 v_ga25 gl25 gc25 gk25 v_ga26 gl26 gc26 gk26 v_ga27 gl27 gc27 gk27 v_ga28 gl28 gc28 gk28 v_ga29 gl29 gc29 gk29 v_ga30 gl30 gc30 gk30 v_ga31 gl31 gc31 gk31 v_ga32 v_gr32 gl32 gc32 gk32 v_ga33 v_gr33 gl33 gc33 gk33 v_ga34 gl34 gc34 gk34 v_ga35 gl35 gc35 gk35 v_ga36 gl36 gc36 gk36 v_ga37 gl37 gc37 gk37 v_ga38 gl38 gc38 gk38 v_ga39 gl39 gc39 gk39 gw39 v_ga40 gl40 gc40 gk40 v_ga41 gl41 gc41 gk41 v_ga42 gl42 gc42 gk42 gw42 v_ga43 gl43 gc43 gk43 v_ga44 gl44 gc44 gk44 v_ga45 v_gr45 gl45 gc45 gk45 v_ga46 gl46 gc46 gk46 v_ga47 gl47 gc47 gk47 v_ga48 gl48 gc48 gk48 v_ga49 gl49 gc49 gk49 v_ga50 gl50 gc50 gk50 v_ga51 gl51 gc51 gk51 v_ga52 gl52 gc52 gk52 v_ga53 gl53 gc53 gk53 v_ga54 gl54 gc54 gk54 v_ga55 gl55 gc55 gk55 v_ga56 gl56 gc56 gk56 v_ga57 gl57 gc57 gk57 v_ga58 gl58 gc58 gk58 v_ga59 gl59 gc59 gk59 v_ga60 gl60 gc60 gk60 v_ga61 gl61 gc61 gk61 v_ga62 v_gr62 gl62 gc62 gk62 v_ga63 gl63 gc63 gk63 v_ga64 gl64 gc64 gk64 m_MAX_LETTERS m_MAX_PLACES m_MAX_TIES v_z_abs v_z_all v_z_bool v_z_dict v_z_int v_z_isinstance v_z_len v_z_list v_z_max v_z_min v_z_range v_z_repr v_z_set v_z_sorted v_z_str v_z_sum v_z_tuple v_z_zip v_xx
abbrev RO : PySem.W.OpenRow := PySem.W.OpenLaw.row PySem.Challenge.rw_owedround_k10_whole_lendings_and_plans
def litsA : List Addr := [140, 141, 145, 146, 150, 151, 155, 156, 162, 163, 174, 175, 201, 202, 203, 239, 240, 330, 331, 362, 372, 373, 379, 380, 384, 385, 391, 392, 396, 397, 403, 404, 408, 409, 415, 416, 422, 423, 427, 428, 439, 440, 474, 475, 476, 482, 483, 484, 490, 491]
def litsB : List Addr := [492, 510, 511, 512, 513, 517, 518, 522, 523, 524, 530, 531, 537, 538, 606, 607, 624, 634, 635, 639, 640, 644, 645, 649, 650, 656, 657, 661, 662, 666, 667, 673, 674, 680, 681, 687, 688, 694, 695, 701, 702, 708, 709, 715, 716, 722, 723, 727, 728, 734]
def litsC : List Addr := [735, 739, 740, 746, 747, 751, 752, 756, 757, 763, 764, 768, 769, 773, 774, 778, 779, 783, 784, 788, 789, 793, 794, 800, 801, 805, 806, 810, 811, 815, 816, 820, 821, 825, 826, 832, 833]
/-- where the run leaves the defs, their codes, what the two classes name -/
def azK (g : Addr → Option Obj) : List Addr := mainGlobals :: (litsA ++ (litsB ++ (litsC ++ He.growD g [362, 624])))
abbrev hk : PySem.W.Hook := OwHd.hook azK fns exs
def obK (s : PySem.W.SharedT) : OwHd.Al := OwHd.seenAt azK fns exs (HandSHeadRun.getT s)
theorem obK_eq (s : PySem.W.SharedT) : obK s = hk.obs s.abs := OwHd.seenAt_eq (HandSHeadRun.getT_eq s)
def loose0 : List PySem.Str := [("_wall" : PySem.Str), ("WebError" : PySem.Str), ("InvalidPlace" : PySem.Str), ("InvalidWeb" : PySem.Str), ("InvalidDebts" : PySem.Str), ("InvalidPlan" : PySem.Str), ("InvalidOperation" : PySem.Str), ("UnknownName" : PySem.Str), ("InvalidNumber" : PySem.Str), ("MAX_LETTERS" : PySem.Str), ("is_integer" : PySem.Str), ("is_name" : PySem.Str), ("are_names" : PySem.Str), ("has_just_keys" : PySem.Str), ("_is_whole" : PySem.Str), ("MAX_PLACES" : PySem.Str), ("MAX_TIES" : PySem.Str), ("Web" : PySem.Str), ("need_web" : PySem.Str), ("need_place" : PySem.Str), ("is_place_set" : PySem.Str), ("is_tie" : PySem.Str), ("ascends" : PySem.Str), ("reached_along" : PySem.Str), ("_ends_off" : PySem.Str), ("_is_web" : PySem.Str), ("_are_places" : PySem.Str), ("_are_ties" : PySem.Str), ("Debts" : PySem.Str), ("is_plan" : PySem.Str), ("plain_plan" : PySem.Str), ("joined_plans" : PySem.Str), ("made_debts" : PySem.Str), ("lent_by" : PySem.Str), ("lent_amounts" : PySem.Str)]
def loose1 : List PySem.Str := [("_are_numbers" : PySem.Str), ("_need_plan" : PySem.Str), ("_need_many" : PySem.Str), ("_line" : PySem.Str), ("_law_dice" : PySem.Str), ("_law_roll" : PySem.Str), ("_law_pick" : PySem.Str), ("_law_mixed" : PySem.Str), ("_law_tie" : PySem.Str), ("_law_plain" : PySem.Str), ("_law_made" : PySem.Str), ("_law_pairs" : PySem.Str), ("_law_names" : PySem.Str), ("_law_web" : PySem.Str), ("_law_written" : PySem.Str), ("_law_number" : PySem.Str), ("_law_debts" : PySem.Str), ("_law_step" : PySem.Str), ("_law_none" : PySem.Str), ("_law_added" : PySem.Str), ("_law_after" : PySem.Str), ("_law_lent" : PySem.Str), ("_law_debts_made" : PySem.Str), ("_law_is_debts" : PySem.Str), ("_law_plan_drawn" : PySem.Str), ("_law_plain_of" : PySem.Str), ("_law_steps_right" : PySem.Str), ("_law_plans_right" : PySem.Str)]
def looseL : List PySem.Str := loose0 ++ loose1
set_option maxHeartbeats 0 in
theorem runK (w : World) : HandSHeadRun.RunEq RO (PySem.W.view RO.prog [68]) hk obK 9000 looseL w := by
  intro os
  kernel_rfl
end OwW
open PySem PySem.W PySem.Calls PyProof.Rows
set_option maxRecDepth 100000 in
set_option maxHeartbeats 0 in
theorem PySem.Challenge.cw_owedround_k10_whole_lendings_and_plans_holds : PySem.Challenge.rw_owedround_k10_whole_lendings_and_plans.Holds := by
  w_on; o_law
  refine HandSHeadRun.head_any (r := OpenLaw.row PySem.Challenge.rw_owedround_k10_whole_lendings_and_plans) (q := view (OpenLaw.row PySem.Challenge.rw_owedround_k10_whole_lendings_and_plans).prog [68]) (H := OwW.hk) (ob := OwW.obK) (M := 9000) (loose := OwW.looseL) (d := HandSHeadRun.topDef (OpenLaw.row PySem.Challenge.rw_owedround_k10_whole_lendings_and_plans).prog 68) (kwd := []) OwW.obK_eq
    (by kernel_rfl) (fun s => by kernel_rfl) OwW.runK (by kernel_rfl) (by kernel_rfl) (by kernel_rfl) (by rfl) (by first | assumption | decide +kernel) (by decide +kernel) ⟨rfl, rfl, rfl, rfl, rfl, by decide +kernel⟩ ?hw ?hc
  case hw => w_witness2
  case hc =>
    refine OwX.walk_ofGE (l := PySem.Challenge.rw_owedround_k10_whole_lendings_and_plans) (n := 63) (k := 11) (x := "_law_script") rfl (by decide) (by kernel_rfl) ⟨rfl, by decide, by decide⟩ fun w mg fa h Y G hm0 => ?_
    obtain ⟨K, KX, c⟩ := Y
    have hm : mg ("law" : PySem.Str) = some (.ref fa) := by
      rw [← show (HandSHeadRun.topDef (OpenLaw.row PySem.Challenge.rw_owedround_k10_whole_lendings_and_plans).prog 68).name = ("law" : PySem.Str) by kernel_rfl]
      exact hm0
    obtain ⟨fd, hb, hF⟩ := OwW.facts_law (l := PySem.Challenge.rw_owedround_k10_whole_lendings_and_plans) (w := w) KX G hm c
    exact ⟨K, fd, OwW.spLaw K, ⟨KX, hb⟩, fun H a ns hS => ⟨a, ns, rfl, hS, fun _ => rfl⟩, hF⟩
