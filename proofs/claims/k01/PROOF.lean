import PyProof.Rows.All
import Wide.All
import OpenK.AllK
import Wide.FinOn
import HandS.ForMost
import HandS.ForExc
import HandS.IsInst
import HandS.ExcValue
import HandS.ExcInit
import HandS.ExcIs
import HandS.TryMany
import HandS.Wide
import KE.KExcInit
import KE.KExcIs
import HandS.HotCalls
import HandS.WideBits
import HandS.Evl
import HandS.Walk
import HandS.RaiseMore
import HandS.Style
import HandS.ExcField
import HandS.ExcInitHot
import HandS.Dict
import PySem.Challenge.RW_owedround_k01_errors_and_what_they_keep
set_option Elab.async false
set_option linter.all false
set_option maxRecDepth 100000
set_option maxHeartbeats 4000000
/-! Own error classes whose __init__ keeps one value, over any built-in base: made, kept, read, raised. -/
namespace OwF
open PySem PySem.F
theorem storeKey : StoreFacts "KeyError" [.type "KeyError", .type "LookupError", .type "Exception", .type "BaseException", .type "object"] "object.__setattr__" "object" :=
  { mro := by kernel_rfl, entry := entry_object_sa, kind := by decide +kernel, split := by decide +kernel, hasOwner := by decide +kernel, args := (fun _ _ _ => by (unfold argsOk; kernel_rfl)), passes := (fun _ => by kernel_rfl)
    slot := .of (owner := "object") (n := "__setattr__") (by (rw [typeLookup_type, builtinLookup_eq_fast]; kernel_rfl)) (by decide +kernel) (by decide +kernel) (by decide +kernel) (by (first | exact .inl (by decide +kernel) | exact .inr (by decide +kernel))) (by (rw [isSubtype_type]; kernel_rfl)) }
end OwF
namespace OwX
open PySem PySem.W PySem.Calls PyProof.Rows PySem.HandSPX
/-- what the tail of an own class's order of bases must have, beside the facts of the base that makes its instances -/
structure Tl (bm : List Value) (B : String) : Prop where
  b : bm.contains (.type B) = true
  a : bm.contains (.type "AttributeError") = false
  n : bm.contains (.type "NameError") = false
section
variable {M : Model} {prog : Program} {w : World} {A : Around} {E : Value → Shared → Prop} {R : Result → Shared → Prop} {h : Heap} {g : Array GenState} {d : Drawn} {t : Nat} {os : OsState}
variable {nm q : Str} {C N : Addr} {bs bm bmB : List Value} {hdct : Bool} {sn : List Str} {sub : List Value} {ab : Bool} {col : Option Bool} {dd : Option Addr} {k0 k1 k2 k3 k5 : Option Value} {B newId initId : String}
theorem tl_check (F : ExcBaseFacts B newId initId bmB) (T : Tl bm B) {rest : List Value} {Q : Unit → Shared → Prop} (hC : h.get? C = some (excClassObj nm q C N bs bm hdct sn sub ab col dd k0 k1 k2 k3 k5 newId)) (hq : Q () ⟨h, g, d, t, os⟩) :
    wpAny M A (checkBuiltinCall newId ⟨.ref C :: rest, []⟩) Q E ⟨h, g, d, t, os⟩ := by
  have c1 : (Value.ref C :: bm).contains (.type B) = true := by (rw [List.contains_cons, T.b, Bool.or_true])
  have c2 := F.noStar
  simp only [checkBuiltinCall, F.newKind, F.newSplit, F.newRow]
  repeat (first | (refine wpAny_loadPart_at hC ?_) | (refine wpAny_isSubtype_exc hC ?_; (rw [c1])) | (refine wpAny_staticBase_exc hC ?_) | (refine wpAny_madeBy_exc hC ?_) | (simp only [bne_self_eq_false, Bool.false_eq_true, if_false]) | wp_step)
  exact hq
theorem tl_new (F : ExcBaseFacts B newId initId bmB) (T : Tl bm B) {rest : List Value} (hC : h.get? C = some (excClassObj nm q C N bs bm hdct sn sub ab col dd k0 k1 k2 k3 k5 newId)) (hz : rest.length ≤ sizeLine)
    (hq : R (.ok (.ret (.ref (h.objs.size + 1)))) ⟨(h.push { cls := .type "tuple", data := .seq rest.toArray }).push { cls := .ref C, data := .fields #[.ref h.objs.size, .none, .none, .none, .bool false, .none] }, g, d, t, os⟩) :
    codeAny (model prog w) A (.builtin newId ⟨.ref C :: rest, []⟩) R ⟨h, g, d, t, os⟩ := by
  have c0 := F.ends
  have c1 : (Value.ref C :: bm).contains (.type B) = true := by (rw [List.contains_cons, T.b, Bool.or_true])
  have c2 : (Value.ref C :: bm).contains (.type "AttributeError") = false := by (rw [List.contains_cons, T.a] <;> rfl)
  have c3 : (Value.ref C :: bm).contains (.type "NameError") = false := by (rw [List.contains_cons, T.n] <;> rfl)
  refine codeAny_builtinAt F.entry ?_
  unfold Builtin.«BaseException.__new__»
  refine PySem.wpAt_bind ?_
  show PySem.wpAt _ _ _ (stack >>= _) _ _ _
  refine PySem.wpAt_bind (PySem.wpAt_stack fun p below => PySem.wpAt_of_wpAny ?_)
  wp_walk
  refine PySem.wpAt_of_wpAny ?_
  rw [F.owner]
  repeat (first | (with_reducible refine wpAny_madeHere_exc F.canon hC ?_) | (with_reducible refine wpAny_loadPart_at hC ?_) | (with_reducible refine wpAny_isSubtype_exc hC ?_; first | (rw [c1]) | (rw [c2]) | (rw [c3])) | wp_step)
  show R _ _
  rw [Heap.size_push]
  exact hq
theorem tl_type (F : ExcBaseFacts B newId initId bmB) (T : Tl bm B) {rest : List Value} {fI : Addr} {Q : Fin → Shared → Prop} (hC : h.get? C = some (excClassObj nm q C N bs bm hdct sn sub ab col dd k0 k1 k2 k3 k5 newId))
    (hi : W.Looks (model prog w) h (typeLookup (.ref C) "__init__") (some (.ref fI))) (hb : ∀ self, W.Looks (model prog w) h (bindSpecial (.ref fI) self) (.ref fI, [self])) (hz : rest.length ≤ sizeLine)
    (hq : codeAny (model prog w) A (.call (.ref fI) ⟨.ref (h.objs.size + 1) :: rest, []⟩) (fun r s' => match r with | .ok (.ret v) => v = .none ∧ Q (.done (.ret (.ref (h.objs.size + 1)))) s' | .ok _ => False | .error e => E e s')
      ⟨(h.push (W.kdv_tup rest)).push (excO C h.objs.size), g, d, t, os⟩) : wpAny (model prog w) A (Builtin.«type.__call__» ⟨.ref C :: rest, []⟩) Q E ⟨h, g, d, t, os⟩ := by
  repeat (first | (with_reducible refine wpAny_loadPart_at hC ?_) | (with_reducible refine wpAny_madeBy_exc hC ?_) | wp_step)
  refine codeAny_call_builtin_code (Code.quiet_builtin _ F.quiet) (tl_check F T hC (tl_new F T hC hz ?_))
  show wpAny _ _ _ _ _ _
  have kp : ∀ b o, h.get? b = some o → ((h.push (W.kdv_tup rest)).push (excO C h.objs.size)).get? b = some o := fun _ _ e => Heap.get?_push_of_some _ (Heap.get?_push_of_some _ e)
  have hC₁ := kp _ _ hC
  have hnew : ((h.push (W.kdv_tup rest)).push (excO C h.objs.size)).get? (h.objs.size + 1) = some (excO C h.objs.size) := by heap_get
  have c4 : (Value.ref C :: bm).contains (.ref C) = true := by simp
  have i1 := hi.keeps kp
  have b1 := (hb (.ref (h.objs.size + 1))).keeps kp
  unfold isInstance
  repeat (first | (with_reducible refine wpAny_loadPart_at hnew ?_) | (with_reducible refine wpAny_isSubtype_exc hC₁ ?_; (rw [c4])) | wp_step)
  show wpAny _ _ (typeLookup (.ref C) _) _ _ _
  refine i1.at (wpAny_holding (wpAny_bind (b1.at (wpAny_bind (wpAny_call (codeAny_mono hq fun r s' z => ?_))))))
  rcases r with e | (v | _ | _ | _) <;> first | exact z | exact z.elim | skip
  obtain ⟨e1, z⟩ := z
  subst e1
  first | exact wpAny_pure (wpAny_pure z) | (wp_walk; exact z)
theorem tl_call (F : ExcBaseFacts B newId initId bmB) (T : Tl bm B) {rest : List Value} {fI : Addr} (hC : h.get? C = some (excClassObj nm q C N bs bm hdct sn sub ab col dd k0 k1 k2 k3 k5 newId))
    (hi : W.Looks (model prog w) h (typeLookup (.ref C) "__init__") (some (.ref fI))) (hb : ∀ self, W.Looks (model prog w) h (bindSpecial (.ref fI) self) (.ref fI, [self])) (hz : rest.length ≤ sizeLine)
    (hq : codeAny (model prog w) (A.under (.builtin "type.__call__" ⟨.ref C :: rest, []⟩)) (.call (.ref fI) ⟨.ref (h.objs.size + 1) :: rest, []⟩) (W.InitBack (h.objs.size + 1) R) ⟨(h.push (W.kdv_tup rest)).push (excO C h.objs.size), g, d, t, os⟩) :
    codeAny (model prog w) A (.call (.ref C) ⟨rest, []⟩) R ⟨h, g, d, t, os⟩ := by
  have t1 := tc_lookup
  have t2 := tc_bind (.ref C)
  have t3 : (⟨h, g, d, t, os⟩ : Shared).TypeIs (.ref C) "type" := ⟨_, hC, rfl⟩
  refine codeAny_of_tree ?_
  show wpAny _ _ (callAny (.ref C) _) _ _ _
  repeat (any_goals (first | assumption | (with_reducible refine wpAny_loadPart_at hC ?_) | wp_step))
  refine ⟨rfl, codeAny_call_builtin_at (Code.quiet_builtin _ (by decide +kernel)) entry_typeCall (wpAny_check_type_call_sub hC (tl_type F T hC hi hb hz ?_))⟩
  refine codeAny_mono hq fun r s' z => ?_
  rcases r with e | (v | _ | _ | _) <;> exact z
end
section
variable {prog : Program} {w : World} {A : Around} {E : Value → Shared → Prop} {R : Result → Shared → Prop} {hp : Heap} {g : Array GenState} {d : Drawn} {t : Nat} {os : OsState}
/-- the first store into an own error, whatever its built-in base -/
theorem store_first {K : W.Frag} {B : String} {bmB : List Value} {name : Str} {tk : Tok} {v : Value} {x C t0 : Addr} (SF : StoreFacts B bmB "object.__setattr__" "object")
    (X : K.In hp) (hx : hp.get? x = some (excO C t0)) (ho : excOver K C bmB = true) (ht : takerIn K C name = some none) (hh : hasDictIn K C = true)
    (hq : ∀ h' tk' dx, (∀ b o, b ≠ x → hp.get? b = some o → h'.get? b = some o) → hp.objs.size ≤ dx → dx ≠ x → h'.get? x = some { cls := .ref C, dict := some dx, data := .fields #[.ref t0, .none, .none, .none, .bool false, .none] } →
      h'.Ns1 dx (fun y => if y = name then some v else none) → R (.ok (.ret .none)) ⟨h', g, d, tk', os⟩) :
    codeAny (model prog w) A (.call (.builtin "object.__setattr__") ⟨[.ref x, .str name tk, v], []⟩) R ⟨hp, g, d, t, os⟩ := by
  have hxs : x ≠ hp.objs.size := Nat.ne_of_lt (Heap.lt_size hx)
  refine osa_openX (s := ⟨hp, g, d, t, os⟩) (od := none) SF X ⟨hx, rfl, rfl, trivial⟩ ho ht fun b => ?_
  obtain ⟨cd, hc, hd'⟩ := any_some hh
  refine wpAny_bind (wpAny_pure (wpAny_bind (instanceDict_exc (s := ⟨hp, g, d, t, os⟩) (c2 := .none) hx (looks_clsIn X hc) hd' ?_)))
  show wpAny _ _ (Builtin.ObjectAttr.storeInDict hp.objs.size (.str name tk) name v) _ _ _
  refine store_in_new (hp := (hp.push (dictOf [] 0)).update x fun o => { o with dict := some hp.objs.size }) ⟨_, #[], _, (Heap.get?_update_ne _ _ _ _ hxs.symm).trans (Heap.get?_push_at rfl rfl), rfl, fun e he => absurd he (by simp), fun _ => rfl⟩ ?_
  intro h' tk' hn' hs
  have hx₁ : (hp.push (dictOf [] 0)).get? x = some (excO C t0) := Heap.get?_push_of_some _ hx
  refine hq h' tk' hp.objs.size (fun b o hb ho => (hs.2 b (Nat.ne_of_lt (Heap.lt_size ho))).trans ((Heap.get?_update_ne _ _ _ _ hb).trans (Heap.get?_push_of_some _ ho))) (Nat.le_refl _) hxs.symm ?_ hn'
  exact (hs.2 x hxs).trans (Heap.get?_update_self _ hx₁ rfl)
end
end OwX

namespace OwX
open PySem PySem.W PySem.Calls PyProof.Rows PySem.HandSPX
/-! ### the text of such an __init__: def __init__(self, f): self.f = f -/
def iA (f : Str) (p1 p2 : Pos) : Arguments := { posonlyargs := [], args := [{ arg := "self", annotation := none, pos := p1 }, { arg := f, annotation := none, pos := p2 }], vararg := none, kwonlyargs := [], kw_defaults := [], kwarg := none, defaults := [] }
def iB (f : Str) (q1 q2 q3 q4 : Pos) : List Stmt := [.Assign [.Attribute (.Name "self" q1) f q2] (.Name f q3) q4]
def iS (f : Str) : Scope := { kind := .function, names := [(PySem.Str.ofString "self", .local), (f, .local)], isGenerator := false, isCoroutine := false, more := [] }
/-- all that is asked of the class at C and its __init__ at fI, as one test -/
def exChk (K : Frag) (C fI : Addr) (f : Str) (bmB : List Value) (newId : String) : Bool :=
  excInitIn K C bmB newId && (excOver K C bmB && (decide (takerIn K C f = some none) && (hasDictIn K C && (decide (findIn K (.ref C) "__setattr__" = some (some (.builtin "object.__setattr__"))) &&
  (decide (findIn K (.ref C) "__getattribute__" = some (some (.builtin "BaseException.__getattribute__"))) && (decide (findIn K (.ref C) "__getattr__" = some none) && (decide (findIn K (.ref C) f = some none) &&
  (decide (findIn K (.ref C) "__init__" = some (some (.ref fI))) && (decide (typeIn K (.ref fI) = some (.type "function")) && (keepIn K (.ref C) && (decide (subIn K (.ref C) (.type "BaseException") = some true) &&
  (decide (typeIn K (.ref C) = some (.type "type")) && (decide (findIn K (.ref C) "__class__" = some (some (.builtin "object.__class__"))) && (decide (specialIn K (.builtin "object.__class__") "__get__" = some (some (.builtin "getset_descriptor.__get__"))) &&
  (decide (takesIn K (.builtin "object.__class__") = some true) && (decide (mroIn K C (.type "object") = some true) && (clsIn K C).isSome))))))))))))))))
structure ExC (K : Frag) (C fI : Addr) (f : Str) (bmB : List Value) (newId : String) : Prop where
  ini : excInitIn K C bmB newId = true
  ovr : excOver K C bmB = true
  tk : takerIn K C f = some none
  hd : hasDictIn K C = true
  sa : findIn K (.ref C) "__setattr__" = some (some (.builtin "object.__setattr__"))
  ga : findIn K (.ref C) "__getattribute__" = some (some (.builtin "BaseException.__getattribute__"))
  gg : findIn K (.ref C) "__getattr__" = some none
  noN : findIn K (.ref C) f = some none
  iC : findIn K (.ref C) "__init__" = some (some (.ref fI))
  tI : typeIn K (.ref fI) = some (.type "function")
  kC : keepIn K (.ref C) = true
  exC : subIn K (.ref C) (.type "BaseException") = some true
  tyC : typeIn K (.ref C) = some (.type "type")
  cc : findIn K (.ref C) "__class__" = some (some (.builtin "object.__class__"))
  cg : specialIn K (.builtin "object.__class__") "__get__" = some (some (.builtin "getset_descriptor.__get__"))
  ct : takesIn K (.builtin "object.__class__") = some true
  mo : mroIn K C (.type "object") = some true
  cs : (clsIn K C).isSome = true
theorem exChk_ok {K : Frag} {C fI : Addr} {f : Str} {bmB : List Value} {newId : String} (h : exChk K C fI f bmB newId = true) : ExC K C fI f bmB newId := by
  unfold exChk at h
  simp only [Bool.and_eq_true, decide_eq_true_eq] at h
  obtain ⟨h1, h2, h3, h4, h5, h6, h7, h8, h9, h10, h11, h12, h13, h14, h15, h16, h17, h18⟩ := h
  exact ⟨h1, h2, h3, h4, h5, h6, h7, h8, h9, h10, h11, h12, h13, h14, h15, h16, h17, h18⟩
/-- how its two arguments are bound: rfl at a written name -/
def BindF (f : Str) : Prop := ∀ (qual : Str) (p1 p2 q1 q2 q3 q4 : Pos) (doc pm cdv ct u v : Value) (an : Option Addr), bindArgs (fnOf "__init__" qual (iA f p1 p2) (iB f q1 q2 q3 q4) (iS f) .none .none doc pm an cdv ct) ⟨[u, v], []⟩ = pure [(("self" : Str), u), (f, v)]
/-- an own error class with such an __init__ -/
structure ETxt (K : Frag) (mg : Str → Option Value) (nm qual : Str) (C fI : Addr) (f : Str) : Prop where
  gC : mg nm = some (.ref C)
  fs : (f == ("self" : Str)) = false
  fd : (f == ("__debug__" : Str)) = false
  bi : BindF f
  ba : ∃ (B B' newId initId : String) (bmN bmB : List Value), ExcBaseFacts B newId initId bmN ∧ StoreFacts B' bmB "object.__setattr__" "object" ∧ Tl bmB B ∧ ExC K C fI f bmB newId
  fn : ∃ (oc : Value) (od : Option Addr) (doc pm : Value) (an : Option Addr) (cdv ct : Value) (osl : Array (Option Value)) (p1 p2 q1 q2 q3 q4 : Pos),
    K.lookup fI = some ⟨oc, od, .func (fnOf "__init__" qual (iA f p1 p2) (iB f q1 q2 q3 q4) (iS f) .none .none doc pm an cdv ct), osl⟩ ∧ codeIn K cdv qual = true
theorem one_size (v : Value) : [v].length ≤ sizeLine := by
  rw [sizeLine_eq]
  exact (by decide : 1 ≤ 16777216)
theorem ldC {M : Model} {s : Shared} {name : Str} {scope : Scope} {L a : Addr} {cd : Value} {m : Str → Option Value} {x : Str} {pos : Pos} {v : Value} {Q : Value → Shared → Prop} {A : Around} {E : Value → Shared → Prop} (hn : s.heap.Ns L m) (hv : m x = some v) (h : Q v s)
    (hk : scope.kind = .function := by rfl) (hl : (envOfC name scope L a cd).kindOf x = some .local := by rfl) (hd : (x == ("__debug__" : Str)) = false := by decide) :
    wpAny M A (eval (.Name x pos) (envOfC name scope L a cd)) Q E s := wpAny_Name (wpAny_loadName_local hk hl hn hv h) hd
/-- what __init__ leaves of a fresh exception at x -/
structure InitEnd (h h' : Heap) (x C dx t1 : Addr) (f : Str) (v : Value) : Prop where
  keep : ∀ b o, b ≠ x → h.get? b = some o → h'.get? b = some o
  obj : h'.get? x = some { cls := .ref C, dict := some dx, data := .fields #[.ref t1, .none, .none, .none, .bool false, .none] }
  dbig : h.objs.size ≤ dx
  dne : dx ≠ x
  ns : h'.Ns1 dx (fun y => if y = f then some v else none)
structure OwnMade (h h' : Heap) (e C d t1 : Addr) (f : Str) (v : Value) : Prop where
  keep : ∀ b o, h.get? b = some o → h'.get? b = some o
  new : h.objs.size ≤ e
  obj : h'.get? e = some { cls := .ref C, dict := some d, data := .fields #[.ref t1, .none, .none, .none, .bool false, .none] }
  dbig : h.objs.size ≤ d
  dne : d ≠ e
  ns : h'.Ns1 d (fun y => if y = f then some v else none)
section
variable {prog : Program} {w : World} {A : Around} {E : Value → Shared → Prop} {R : Result → Shared → Prop} {s : Shared} {K : Frag} {mg : Str → Option Value} {nm qual : Str} {C fI : Addr} {f : Str}
theorem ex_init (T : ETxt K mg nm qual C fI f) {x t0 : Addr} {v : Value} (X : K.In s.heap) (hlim : s.heap.NoLimit) (hx : s.heap.get? x = some (excO C t0)) (hroom : A.depth < recursionLimit)
    (hq : ∀ h' tk dx, InitEnd s.heap h' x C dx t0 f v → R (.ok (.ret .none)) { s with heap := h', toks := tk }) :
    codeAny (model prog w) A (.call (.ref fI) ⟨[.ref x, v], []⟩) R s := by
  obtain ⟨oc, od, doc, pm, an, cdv, ct, osl, p1, p2, q1, q2, q3, q4, ho, hcd⟩ := T.fn
  obtain ⟨B, B', newId, initId, bmN, bmB, FB, SF, TB, EC⟩ := T.ba
  have hfs := T.fs
  have hl2 : List.lookup f ([(PySem.Str.ofString "self", .local), (f, .local)] : List (Str × NameKind)) = some .local := by simp [List.lookup, hfs]
  refine Att.call_fn (binds := [("self", .ref x), (f, v)]) X hlim ho hcd hroom (BindsTo.of_eq (T.bi _ _ _ _ _ _ _ _ _ _ _ _ _ _)) ?_ (fun s₁ IC => ?_) rfl rfl rfl
  · simp [iS, List.lookup, hfs]
  obtain ⟨h₁, tk₁, rfl⟩ := IC.toInCall.same
  have k : ∀ b o, s.heap.get? b = some o → h₁.get? b = some o := IC.toInCall.keep
  have hn := IC.toInCall.ns
  have X₁ : K.In h₁ := X.keeps k
  have hx₁ := k _ _ hx
  have kf : (envOfC qual (iS f) s.heap.objs.size fI cdv).kindOf f = some .local := hl2
  show wpAny _ _ (execs _ _) _ _ _
  refine wpAny_execs_cons (plainObj_wpAny_Assign_Attribute ?_)
  refine ldC (v := v) hn ?_ (ldC (v := .ref x) hn ?_ ?_) rfl kf T.fd
  · simp [bindL, kf]
  · have ks : (envOfC qual (iS f) s.heap.objs.size fI cdv).kindOf "self" = some .local := rfl
    have hsf : (("self" : Str) == f) = false := by
      rw [← hfs]
      exact Bool.eq_iff_iff.mpr ⟨fun z => beq_iff_eq.mpr (beq_iff_eq.mp z).symm, fun z => beq_iff_eq.mpr (beq_iff_eq.mp z).symm⟩
    have hsn : ¬ ("self" : Str) = f := fun z => by rw [beq_iff_eq.mpr z] at hsf; cases hsf
    simp [bindL, kf, ks, hsn]
  refine set_plain X₁ (ox := excO C t0) (od := none) ⟨hx₁, rfl, rfl, trivial⟩ EC.sa ?_
  refine store_first SF X₁ hx₁ EC.ovr EC.tk EC.hd (fun h₃ tk₃ dx k₃ dn dne hx₃ hn₃ => ?_)
  show wpAny _ _ (execs _ _) _ _ _
  have z : s.heap.objs.size < h₁.objs.size := hn.lt
  exact wpAny_execs_nil (hq h₃ tk₃ dx ⟨fun b o hb e => k₃ b o hb (k b o e), hx₃, Nat.le_of_lt (Nat.lt_of_lt_of_le z dn), dne, hn₃⟩)
end
end OwX

namespace OwX
open PySem PySem.W PySem.Calls PyProof.Rows PySem.HandSPX
section
variable {prog : Program} {w : World} {A : Around} {E : Value → Shared → Prop} {R : Result → Shared → Prop} {s : Shared} {K : Frag} {mg : Str → Option Value} {nm qual : Str} {C fI : Addr} {f : Str}
theorem ex_made (T : ETxt K mg nm qual C fI f) {v : Value} (X : K.In s.heap) (hlim : s.heap.NoLimit) (hroom : A.depth + 1 < recursionLimit)
    (hq : ∀ h' tk e d t1, OwnMade s.heap h' e C d t1 f v → R (.ok (.ret (.ref e))) { s with heap := h', toks := tk }) :
    codeAny (model prog w) A (.call (.ref C) ⟨[v], []⟩) R s := by
  obtain ⟨B, B', newId, initId, bmN, bmB, FB, SF, TB, EC⟩ := T.ba
  obtain ⟨nm', N, qn, bs, bm, hdct, sn, sub, ab, col, dd, k0, k1, k2, k3, k5, hC, hT⟩ := excInit_of X EC.ini
  have TL : Tl bm B := ⟨by rw [hT]; exact TB.b, by rw [hT]; exact TB.a, by rw [hT]; exact TB.n⟩
  obtain ⟨hp, g, dr, tk, os⟩ := s
  have k : ∀ b o, hp.get? b = some o → ((hp.push (kdv_tup [v])).push (excO C hp.objs.size)).get? b = some o := fun b o e => Heap.get?_push_of_some _ (Heap.get?_push_of_some _ e)
  have hget : ((hp.push (kdv_tup [v])).push (excO C hp.objs.size)).get? (hp.objs.size + 1) = some (excO C hp.objs.size) := by heap_get
  refine tl_call FB TL hC (looks_findIn X EC.iC) (fun self => bind_fn X self EC.tI) (one_size v) ?_
  refine ex_init (s := ⟨(hp.push (kdv_tup [v])).push (excO C hp.objs.size), g, dr, tk, os⟩) T (X.keeps k) (hlim.keeps k) hget ?_ fun h' tk' dx ⟨k', hx, dn, dne, hns⟩ => ?_
  · show A.depth + 1 < recursionLimit
    exact hroom
  · have old : ∀ b o, hp.get? b = some o → h'.get? b = some o := fun b o e => k' b o (Nat.ne_of_lt (Nat.lt_succ_of_lt (Heap.lt_size e))) (k b o e)
    have z : hp.objs.size + 1 + 1 ≤ dx := by
      have q := dn
      first
        | exact q
        | (rw [Heap.size_push, Heap.size_push] at q; exact q)
    exact ⟨rfl, hq h' tk' (hp.objs.size + 1) dx hp.objs.size ⟨old, Nat.le_succ _, hx, Nat.le_trans (Nat.le_trans (Nat.le_succ _) (Nat.le_succ _)) z, dne, hns⟩⟩
end
end OwX
namespace OwX
open PySem PySem.Spec PyProof.Rows L2
theorem relO_one {v : V} {v' : Value} (r : RelV v v') (f g : Str) : RelO (List.lookup g [(f, v)]) (if g = f then some v' else none) := by
  by_cases hw : g = f
  · subst hw
    rw [if_pos rfl]
    have q : List.lookup g [(g, v)] = some v := by simp [List.lookup]
    rw [q]
    exact r
  · rw [if_neg hw]
    have qw : (g == f) = false := by simpa using hw
    have q2 : List.lookup g [(f, v)] = none := by simp [List.lookup, qw]
    rw [q2]
    trivial
section
variable {X : Cx} {nm qual : Str} {C fI : Addr} {f : Str}
/-- both objects of a made error are tracked -/
theorem ex_inv {pins : List (Addr × Obj)} {σ : L2.St} {H : Hp} {s : Shared} {h' : Heap} {tk : Nat} {e d t1 : Addr} {v : V} {v' : Value} (I : Inv X pins σ H s) (rv : RelV v v') (M : OwnMade s.heap h' e C d t1 f v') :
    H e = none ∧ H d = none ∧ Inv X pins σ (upd (upd H d (exd d [(f, v)])) e (exo e C (some d))) { s with heap := h', toks := tk } := by
  have He := I.hok.fresh M.new
  have Hd := I.hok.fresh M.dbig
  refine ⟨He, Hd, ?_⟩
  obtain ⟨G, g1, g2⟩ := restrict h' fun b => decide (b ≠ e)
  have gk : ∀ b, b ≠ e → G.get? b = h'.get? b := fun b hb => g1 b (decide_eq_true hb)
  have ge : G.get? e = none := g2 e (by simp)
  have old : ∀ b o, s.heap.get? b = some o → G.get? b = some o := fun b o q => (gk b (Nat.ne_of_lt (Nat.lt_of_lt_of_le (Heap.lt_size q) M.new))).trans (M.keep b o q)
  have nd : s.heap.get? d = none := Heap.get?_none_of_le M.dbig
  have J : Inv X pins σ (upd H d (exd d [(f, v)])) { s with heap := G, toks := tk } :=
    I.laidN old nd Hd (exd_ok (M.ns.at (fun o q => (gk d M.dne).trans q)) fun g => relO_one rv f g)
  have gh : ∀ b o, G.get? b = some o → h'.get? b = some o := fun b o q => by
    by_cases hb : b = e
    · rw [hb, ge] at q; cases q
    · exact (gk b hb).symm.trans q
  exact J.laidN gh ge (by rw [upd_ne (Ne.symm M.dne)]; exact He) (exo_ok M.obj)
/-- nm(a), as a value -/
def tMkV (C : Addr) (f : Str) (ta : TA) : TE := fun σ H Q => ta σ H fun vs H1 => ∃ v, vs = [v] ∧ ∀ e d, H1 e = none → H1 d = none → d ≠ e → Q (.ref e) (upd (upd H1 d (exd d [(f, v)])) e (exo e C (some d)))
theorem pe_mkV {a : Expr} {ta : TA} {p pos : Pos} {k : Nat} (T : ETxt X.K X.mg nm qual C fI f) (hr : Room k X.A) (ha : PA X [a] ta) (hg : Gl X nm) (hdb : (nm == ("__debug__" : Str)) = false := by decide)
    (he : starEach (a :: []) X.env = (false, eval a X.env) :: starEach [] X.env := by rfl) (hpl : (backTo pos (starEach [] X.env)).any (·.1) = false := by rfl) :
    PE X (.Call (.Name nm p) [a] [] pos) (tMkV C f ta) := by
  refine ⟨fun pins s σ H Q I h => ?_⟩
  obtain ⟨B, B', newId, initId, bmN, bmB, FB, SF, TB, EC⟩ := T.ba
  refine wpAny_Call_Name_kw (ld_glob I hg T.gC ?_ hdb)
  refine PySem.W.callWith_K (h₀ := X.base) I.ok.mod.kin EC.kC (thn (ha.run pos pins s σ H _ I h) fun us s1 hh => ?_) he hpl
  obtain ⟨vs, H1, I1, r1, v, ev, q1⟩ := hh
  subst ev
  refine ⟨I1.kIn, ?_⟩
  obtain ⟨v', rfl, rv⟩ := vals1 r1
  show wpAny _ _ (call (.ref C) [v']) _ _ _
  refine wpAny_call (ex_made T I1.kIn I1.nolimit (by have := hr.dp; omega) fun h' tk' e d t1 M => ?_)
  obtain ⟨z1, z2, J⟩ := ex_inv (tk := tk') I1 rv M
  exact ⟨.ref e, _, J, rfl, q1 e d z1 z2 M.dne⟩
/-- nm(a), to be raised -/
def tMkE (C : Addr) (f : Str) (ta : TA) : L2.St → Hp → XK → Prop := fun σ H Q => ta σ H fun vs H1 => ∃ v, vs = [v] ∧ ∀ d, H1 d = none → Q (.ref C) (some d) (upd H1 d (.xd [(f, v)]))
theorem pmk_mkE {a : Expr} {ta : TA} {p pos : Pos} {k : Nat} (T : ETxt X.K X.mg nm qual C fI f) (hr : Room k X.A) (ha : PA X [a] ta) (hg : Gl X nm) (hdb : (nm == ("__debug__" : Str)) = false := by decide)
    (he : starEach (a :: []) X.env = (false, eval a X.env) :: starEach [] X.env := by rfl) (hpl : (backTo pos (starEach [] X.env)).any (·.1) = false := by rfl) :
    PMk X (.Call (.Name nm p) [a] [] pos) (tMkE C f ta) := by
  intro pins s σ H Q I h
  obtain ⟨B, B', newId, initId, bmN, bmB, FB, SF, TB, EC⟩ := T.ba
  refine wpAny_Call_Name_kw (ld_glob I hg T.gC ?_ hdb)
  refine PySem.W.callWith_K (h₀ := X.base) I.ok.mod.kin EC.kC (thn (ha.run pos pins s σ H _ I h) fun us s1 hh => ?_) he hpl
  obtain ⟨vs, H1, I1, r1, v, ev, q1⟩ := hh
  subst ev
  refine ⟨I1.kIn, ?_⟩
  obtain ⟨v', rfl, rv⟩ := vals1 r1
  show wpAny _ _ (call (.ref C) [v']) _ _ _
  have hlim := I1.nolimit
  obtain ⟨hp, g, dr, tk, os⟩ := s1
  refine wpAny_call (ex_made T I1.kIn hlim (by have := hr.dp; omega) fun h' tk' e d t1 M => ?_)
  show MkP X pins σ Q (.ref e) ⟨h', g, dr, tk', os⟩
  obtain ⟨G', g1, g2⟩ := restrict h' fun b => decide (b ≠ e)
  have gk : ∀ b, b ≠ e → G'.get? b = h'.get? b := fun b hb => g1 b (decide_eq_true hb)
  have ge : G'.get? e = none := g2 e (by simp)
  have old : ∀ b o, hp.get? b = some o → G'.get? b = some o := fun b o q => (gk b (Nat.ne_of_lt (Nat.lt_of_lt_of_le (Heap.lt_size q) M.new))).trans (M.keep b o q)
  have ob : ObjOk X.prog X.w (upd H1 d (.xd [(f, v)])) G' d (.xd [(f, v)]) := ⟨_, M.ns.at (fun o q => (gk d M.dne).trans q), fun g => relO_one rv f g⟩
  have J : Inv X pins σ (upd H1 d (.xd [(f, v)])) (⟨G', g, dr, tk', os⟩ : Shared) := I1.laid (t' := tk') old M.dbig ob
  refine ⟨e, _, _, (⟨G', g, dr, tk', os⟩ : Shared), _, .ref C, some d, rfl, J, fun b o q => ?_, ge, M.obj, ⟨rfl, rfl⟩, rfl, rfl, ?_, rfl, I1.bare, raises_own EC.exC EC.tyC, q1 d (I1.hok.fresh M.dbig)⟩
  · by_cases hb : b = e
    · have q' : G'.get? b = some o := q
      rw [hb, ge] at q'; cases q'
    · exact (gk b hb).symm.trans q
  · rw [upd_ne (Ne.symm M.dne)]
    exact I1.hok.fresh M.new
/-- e.f, e an error held as a value -/
def tXv (K : PySem.W.Frag) (f : Str) (te : TE) : TE := fun σ H Q => te σ H fun x H1 => ∃ (a d C fI : Addr) (bmB : List Value) (newId : String) (v : V), x = .ref a ∧ H1 a = some (exo a C (some d)) ∧ H1 d = some (exd d [(f, v)]) ∧ ExC K C fI f bmB newId ∧ Q v H1
theorem pe_xv {e : Expr} {te : TE} {pos : Pos} (he : PE X e te) (hb : attributeBase e f X.env (eval e X.env) = eval e X.env := by rfl) : PE X (.Attribute e f pos) (tXv X.K f te) := by
  refine ⟨fun pins s σ H Q I h => ?_⟩
  refine attr_of hb (thn (he.run pins s σ H _ I h) fun u s1 hh => ?_)
  obtain ⟨x, H1, I1, rx, a, d, C, fI, bmB, newId, v, ex, ea, ed, EC, q⟩ := hh
  subst ex
  obtain rfl : u = Value.ref a := rx
  obtain ⟨t1, ho⟩ := exo_at I1.hok ea
  obtain ⟨mA, hns, hr⟩ := exd_at I1.hok ed
  obtain ⟨od, hod, hl⟩ := lookIn_ns hns
  have l : List.lookup f [(f, v)] = some v := by simp [List.lookup]
  obtain ⟨u, hu, ru⟩ := RelO.some_of (v := v) (o := mA f) (by rw [← l]; exact hr f)
  have J : PySem.W.InstAt s1.heap a { cls := .ref C, dict := some d, data := .fields #[.ref t1, .none, .none, .none, .bool false, .none] } C (some od) := ⟨ho, rfl, rfl, hod⟩
  exact HandSPX.exc_get I1.kIn J EC.ga EC.gg EC.exC (PySem.W.findObj_own EC.hd EC.noN rfl (by rw [hl, hu])) (handed_of ru) ⟨v, H1, I1.tok _, ru, q⟩
end
end OwX

/-! Defs whose calls may ask for the text of containers: the context's guards are known to be none. -/
namespace OwX
open PySem PySem.Spec PyProof.Rows L2 L2H
/-- as FnOk, called where no guard stands -/
structure GFn (P : Program) (w : World) (K : PySem.W.Frag) (mg : Str → Option Value) (base : Heap) (CX : CXT) (k : Nat) (f : Addr) (fd : FuncData) (ps : List Str) (sp : Sp) : Prop where
  len : ∀ vs H Q E, sp vs H Q E → vs.length = ps.length
  run : ∀ (A : Around) (outer : List Env) (s : Shared) (H : Hp) (args : Args) (us : List Value) (vs : List V) (Q : VK) (E : XK), Room k A → A.guards = some [] → Env0 P w K mg base A outer s H → BindsTo s fd args (ps.zip us) → Vals vs us →
    sp vs H Q E → codeAny (model P w) A (.call (.ref f) args) (CR CX outer P w H s Q E) s
/-- as FnOk, called where the exception p is handled, which the promise may speak of -/
structure PFn (P : Program) (w : World) (K : PySem.W.Frag) (mg : Str → Option Value) (base : Heap) (CX : CXT) (k : Nat) (f : Addr) (fd : FuncData) (ps : List Str) (sp : Addr × Obj → Sp) : Prop where
  len : ∀ p vs H Q E, sp p vs H Q E → vs.length = ps.length
  run : ∀ (A : Around) (outer : List Env) (s : Shared) (H : Hp) (args : Args) (us : List Value) (vs : List V) (Q : VK) (E : XK) (p : Addr × Obj), RoomH k A → PinOk outer H s p → Env0 P w K mg base A outer s H → BindsTo s fd args (ps.zip us) →
    Vals vs us → sp p vs H Q E → codeAny (model P w) A (.call (.ref f) args) (CR CX outer P w H s Q E) s
section
variable {P : Program} {w : World} {K : PySem.W.Frag} {mg : Str → Option Value} {base : Heap} {CX : CXT} {k : Nat} {f : Addr} {fd : FuncData} {N ps : List Str} {sp : Sp}
theorem GFn.of (F : FnOk P w K mg base CX k f fd ps sp) : GFn P w K mg base CX k f fd ps sp := ⟨F.len, fun A outer s H args us vs Q E hr _ => F.run A outer s H args us vs Q E hr⟩
theorem GFn.mono {j : Nat} (F : GFn P w K mg base CX j f fd ps sp) (h : j ≤ k) : GFn P w K mg base CX k f fd ps sp := ⟨F.len, fun A outer s H args us vs Q E hr => F.run A outer s H args us vs Q E (hr.mono h)⟩
/-- the run of a def's body, whatever its context -/
theorem body_run {name qual : Str} {params : Arguments} {body : List Stmt} {scope : Scope} {dV kV doc pm cdv ct oc : Value} {an od : Option Addr} {osl : Array (Option Value)} (lk : K.lookup f = some ⟨oc, od, .func (PySem.W.fnOf name qual params body scope dV kV doc pm an cdv ct), osl⟩)
    (hcd : PySem.W.codeIn K cdv qual = true) (S : FnScope N ps scope) {A : Around} {outer : List Env} {s : Shared} {H : Hp} {args : Args} {us : List Value} {vs : List V} {Q : VK} {E : XK} (hd : A.depth < recursionLimit) (e0 : Env0 P w K mg base A outer s H)
    (hb : BindsTo s (PySem.W.fnOf name qual params body scope dV kV doc pm an cdv ct) args (ps.zip us)) (X : Cx) (xP : X.prog = P) (xw : X.w = w) (xA : X.A = A.deeper (envOfC qual scope s.heap.objs.size f cdv)) (xe : X.env = envOfC qual scope s.heap.objs.size f cdv)
    (xs : X.s_0 = s) (xH : X.H_0 = H) (xo : X.outer = outer) (xx : X.ex = [])
    (xX : X.xe = fun e s' => wpAny (model P w) (A.deeper (envOfC qual scope s.heap.objs.size f cdv)) (leaving (envOfC qual scope s.heap.objs.size f cdv) e) (fun _ s'' => CX outer H s E e s'') (fun e' s'' => CX outer H s E e' s'') s')
    (I : ∀ s1 : Shared, InCallC s s.heap.objs.size (bindL (envOfC qual scope s.heap.objs.size f cdv).kindOf (ps.zip us) fun _ => none) (cellsFrom (s.heap.objs.size + 1) scope.names []) (bindC (envOfC qual scope s.heap.objs.size f cdv).kindOf (ps.zip us) fun _ => none) s1 → Inv X [] (start N vs) H s1)
    {t : TS} (ht : PSs X body t) (hq : t { nx := fun _ H' => Q .non H', rt := Q } (start N vs) H) : codeAny (model P w) A (.call (.ref f) args) (CR CX outer P w H s Q E) s := by
  have KX : K.In s.heap := e0.mod.kin.keeps (fun b o e => (e0.bs b o e).1)
  have hkd : ∀ y ∈ ps.zip us, scope.names.lookup y.1 = some .local ∨ (scope.names.lookup y.1 = some .cell ∧ ((cellsFrom (s.heap.objs.size + 1) scope.names []).lookup y.1).isSome = true) := by
    rintro ⟨n, v⟩ hy
    exact (S.par n (List.of_mem_zip hy).1).elim Or.inl (fun q => Or.inr ⟨q, PySem.W.cellsFrom_some _ _ _ (.inl q)⟩)
  refine codeAny_call_function hd (KX _ _ lk) rfl S.co S.gen rfl (PySem.W.codeRec_of KX hcd) (hb _ _ _ _ (wpAny_newFunctionEnv_cells S.kind hkd fun env he s1 x => ?_))
  subst he
  refine ⟨(e0.mod.nolimit.keeps fun b o e => (e0.bs b o e).1).keeps x.toInCall.keep, codeAny_func ?_⟩
  have J := ht.run [] s1 (start N vs) H _ (I s1 x) hq
  rw [xP, xw, xA, xe, xX] at J
  refine wpAny_mono J (fun fl s' hs => ?_) (fun e s' hs => hs)
  have fin : ∀ {σ' : L2.St} {H' : Hp} {v : V} {u : Value}, Inv X [] σ' H' s' → RelV v u → Q v H' → CE outer P w H s Q u s' := fun {σ' H' v u} J rv q => by
    have z1 := J.os
    have z2 := J.base
    have z3 := J.hok
    unfold Cx.fs at z2
    rw [xs] at z1 z2
    rw [xo, xx, xH] at z2
    rw [xP, xw] at z3
    exact ⟨v, H', z1, J.bare, z2, z3, rv, q⟩
  cases fl with
  | ret u => obtain ⟨v, σ', H', J, rv, q⟩ := hs; exact fin J rv q
  | next => obtain ⟨σ', H', J, q⟩ := hs; exact fin (v := V.non) (u := Value.none) J rfl q
  | brk => obtain ⟨_, _, _, q⟩ := hs; exact False.elim q
  | cont => obtain ⟨_, _, _, q⟩ := hs; exact False.elim q
/-- a def by its body, called where no guard stands; it may raise -/
theorem gfn_of {x qual : Str} {st : Stmt} (F : Fun K x qual st f fd) (S : FnScope N ps (defScope st)) (len : ∀ vs H Q E, sp vs H Q E → vs.length = ps.length)
    (hbody : ∀ (cdv : Value) (A : Around) (outer : List Env) (s : Shared) (H : Hp) (vs : List V) (Q : VK) (E : XK), Room k (A.deeper (envOfC qual (defScope st) s.heap.objs.size f cdv)) → (A.deeper (envOfC qual (defScope st) s.heap.objs.size f cdv)).guards = some [] → sp vs H Q E →
      ∃ t, PSs (cxOf (L2.CX P w) P w K mg base N qual (defScope st) f cdv A outer s H E) (defBody st) t ∧ t { nx := fun _ H' => Q .non H', rt := Q } (start N vs) H) : GFn P w K mg base (L2.CX P w) (k + 1) f fd ps sp := by
  obtain ⟨oc, od, kV, doc, pm, an, cdv, ct, osl, rfl, lk, hcd⟩ := F.ex
  refine ⟨len, fun A outer s H args us vs Q E hr hg e0 hb r hsp => ?_⟩
  have hl := len _ _ _ _ hsp
  obtain ⟨t, ht, hq⟩ := hbody cdv A outer s H vs Q E (hr.deeper _) hg hsp
  exact body_run lk hcd S hr.depth e0 hb _ rfl rfl rfl rfl rfl rfl rfl rfl rfl (fun s1 x => inv_start S hr.hd e0 hl r x) ht hq
/-- a def by its body, called where p is handled -/
theorem pfn_of {x qual : Str} {st : Stmt} {sp : Addr × Obj → Sp} (F : Fun K x qual st f fd) (S : FnScope N ps (defScope st)) (len : ∀ p vs H Q E, sp p vs H Q E → vs.length = ps.length)
    (hbody : ∀ (cdv : Value) (A : Around) (outer : List Env) (s : Shared) (H : Hp) (vs : List V) (Q : VK) (E : XK) (p : Addr × Obj), RoomH k (A.deeper (envOfC qual (defScope st) s.heap.objs.size f cdv)) → sp p vs H Q E →
      ∃ t, PSs (cxH (L2.CX P w) P w K mg base N qual (defScope st) f cdv A outer s H E p) (defBody st) t ∧ t { nx := fun _ H' => Q .non H', rt := Q } (start N vs) H) : PFn P w K mg base (L2.CX P w) (k + 1) f fd ps sp := by
  obtain ⟨oc, od, kV, doc, pm, an, cdv, ct, osl, rfl, lk, hcd⟩ := F.ex
  refine ⟨len, fun A outer s H args us vs Q E p hr hp e0 hb r hsp => ?_⟩
  have hl := len _ _ _ _ _ hsp
  obtain ⟨t, ht, hq⟩ := hbody cdv A outer s H vs Q E p (hr.deeper _) hsp
  exact body_run lk hcd S hr.depth e0 hb _ rfl rfl rfl rfl rfl rfl rfl rfl rfl (fun s1 x => inv_startH S hp e0 hl r x) ht hq
end
end OwX

namespace OwX
open PySem PySem.Spec PyProof.Rows L2 L2H
/-! ### calls of such defs -/
theorem never_at {X : Cx} {σ : L2.St} : PassesAt (L2.CX X.prog X.w) X σ (fun _ _ _ => False) := fun _ _ _ _ _ _ c => by
  obtain ⟨_, _, _, _, _, _, _, _, _, _, _, _, z⟩ := c
  exact z.elim
section
variable {X : Cx} {k : Nat} {f : Addr} {fd : FuncData} {ps : List Str} {sp : Sp} {E : L2.St → XK} {x : Str} {p pos : Pos} {e : Expr} {es : List Expr} {t : TA}
theorem run_gfn {pins : List (Addr × Obj)} {σ : L2.St} {H : Hp} {s : Shared} {Q : VK} {us : List Value} {vs : List V} (F : GFn X.prog X.w X.K X.mg X.base (L2.CX X.prog X.w) k f fd ps sp) (hr : Room k X.A) (hg : X.A.guards = some []) (hb : Binds X.K fd ps [])
    (hx : PassesAt (L2.CX X.prog X.w) X σ (E σ)) (I : Inv X pins σ H s) (r : Vals vs us) (h : sp vs H Q (E σ)) : wpAny (model X.prog X.w) X.A (call (.ref f) us) (EP X pins σ Q) X.xe s := by
  have hl : us.length = ps.length := r.length.symm.trans (F.len _ _ _ _ h)
  have b := hb s us I.kIn (by rw [List.append_nil]; exact hl)
  rw [List.append_nil] at b
  refine wpAny_call (codeAny_mono (F.run X.A X.stack s H ⟨us, []⟩ us vs Q (E σ) hr hg I.env0 b r h) fun r s' z => ?_)
  rcases r with er | fl
  · exact hx pins H s er s' I z
  · cases fl <;> first | exact I.after z | exact False.elim z
theorem pe_callG (F : GFn X.prog X.w X.K X.mg X.base (L2.CX X.prog X.w) k f fd ps sp) (hr : Room k X.A) (hgd : X.A.guards = some []) (hg : Gl X x) (hm : X.mg x = some (.ref f)) (hk : PySem.W.keepIn X.K (.ref f) = true) (hb : Binds X.K fd ps [])
    (hx : ∀ σ, PassesAt (L2.CX X.prog X.w) X σ (E σ)) (ha : PA X (e :: es) t) (hdb : (x == ("__debug__" : Str)) = false := by decide) (he : starEach (e :: es) X.env = (false, eval e X.env) :: starEach es X.env := by rfl)
    (hpl : (backTo pos (starEach es X.env)).any (·.1) = false := by rfl) : PE X (.Call (.Name x p) (e :: es) [] pos) (tCallS sp E t) := by
  refine ⟨fun pins s σ H Q I h => wpAny_Call_Name_kw (ld_glob I hg hm ?_ hdb)⟩
  exact PySem.W.callWith_K (h₀ := X.base) I.ok.mod.kin hk (thn (ha.run pos pins s σ H _ I h) fun us s1 ⟨vs, H1, I1, r, q⟩ => ⟨I1.kIn, run_gfn F hr hgd hb (hx σ) I1 r q⟩) he hpl
theorem pe_callG0 (F : GFn X.prog X.w X.K X.mg X.base (L2.CX X.prog X.w) k f fd ps sp) (hr : Room k X.A) (hgd : X.A.guards = some []) (hg : Gl X x) (hm : X.mg x = some (.ref f)) (hk : PySem.W.keepIn X.K (.ref f) = true) (hb : Binds X.K fd ps [])
    (hx : ∀ σ, PassesAt (L2.CX X.prog X.w) X σ (E σ)) (hdb : (x == ("__debug__" : Str)) = false := by decide) : PE X (.Call (.Name x p) [] [] pos) (tCallS sp E tNil) := by
  refine ⟨fun pins s σ H Q I h => wpAny_Call_Name_kw (ld_glob I hg hm ?_ hdb)⟩
  exact PySem.W.callWith_K0 I.kIn hk (run_gfn (us := []) F hr hgd hb (hx σ) I .nil h)
/-- in an except suite: a call of a def that may speak of the handled error -/
theorem pe_callP {spP : Addr × Obj → Sp} {q : Addr × Obj} (F : PFn X.prog X.w X.K X.mg X.base (L2.CX X.prog X.w) k f fd ps spP) (hr : RoomH k X.A) (hq : q ∈ X.pn) (hg : Gl X x) (hm : X.mg x = some (.ref f)) (hk : PySem.W.keepIn X.K (.ref f) = true)
    (hb : Binds X.K fd ps []) (hx : ∀ σ, PassesAt (L2.CX X.prog X.w) X σ (E σ)) (ha : PA X (e :: es) t) (hdb : (x == ("__debug__" : Str)) = false := by decide) (he : starEach (e :: es) X.env = (false, eval e X.env) :: starEach es X.env := by rfl)
    (hpl : (backTo pos (starEach es X.env)).any (·.1) = false := by rfl) : PE X (.Call (.Name x p) (e :: es) [] pos) (tCallS (spP q) E t) := by
  refine ⟨fun pins s σ H Q I h => wpAny_Call_Name_kw (ld_glob I hg hm ?_ hdb)⟩
  refine PySem.W.callWith_K (h₀ := X.base) I.ok.mod.kin hk (thn (ha.run pos pins s σ H _ I h) fun us s1 ⟨vs, H1, I1, r, z⟩ => ⟨I1.kIn, ?_⟩) he hpl
  have hl : us.length = ps.length := r.length.symm.trans (F.len _ _ _ _ _ z)
  have b := hb s1 us I1.kIn (by rw [List.append_nil]; exact hl)
  rw [List.append_nil] at b
  have P1 := I1.pin q (List.mem_append_left _ hq)
  have hp : PinOk X.stack H1 s1 q := ⟨P1.1, P1.2.1, fun hm' => (List.mem_cons.mp (I1.stkSub q.1 hm')).elim P1.2.2.1 P1.2.2.2.1, P1.2.2.2.2⟩
  refine wpAny_call (codeAny_mono (F.run X.A X.stack s1 H1 ⟨us, []⟩ us vs Q (E σ) q hr hp I1.env0 b r z) fun r s' z => ?_)
  rcases r with er | fl
  · exact hx σ pins H1 s1 er s' I1 z
  · cases fl <;> first | exact I1.after z | exact False.elim z
end
/-! ### isinstance of an error, held as a value or handled -/
/-- what is asked of the class of an error, whichever it is -/
structure ErrC (K : PySem.W.Frag) (D : Addr) : Prop where
  cs : (PySem.W.clsIn K D).isSome = true
  ga : PySem.W.findIn K (.ref D) "__getattribute__" = some (some (.builtin "BaseException.__getattribute__"))
  gg : PySem.W.findIn K (.ref D) "__getattr__" = some none
  exC : PySem.W.subIn K (.ref D) (.type "BaseException") = some true
  cc : PySem.W.findIn K (.ref D) "__class__" = some (some (.builtin "object.__class__"))
  cg : PySem.W.specialIn K (.builtin "object.__class__") "__get__" = some (some (.builtin "getset_descriptor.__get__"))
  ct : PySem.W.takesIn K (.builtin "object.__class__") = some true
  mo : PySem.W.mroIn K D (.type "object") = some true
def errChk (K : PySem.W.Frag) (D : Addr) : Bool :=
  (PySem.W.clsIn K D).isSome && (decide (PySem.W.findIn K (.ref D) "__getattribute__" = some (some (.builtin "BaseException.__getattribute__"))) && (decide (PySem.W.findIn K (.ref D) "__getattr__" = some none) && (decide (PySem.W.subIn K (.ref D) (.type "BaseException") = some true) &&
  (decide (PySem.W.findIn K (.ref D) "__class__" = some (some (.builtin "object.__class__"))) && (decide (PySem.W.specialIn K (.builtin "object.__class__") "__get__" = some (some (.builtin "getset_descriptor.__get__"))) && (decide (PySem.W.takesIn K (.builtin "object.__class__") = some true) &&
  decide (PySem.W.mroIn K D (.type "object") = some true)))))))
theorem errChk_ok {K : PySem.W.Frag} {D : Addr} (h : errChk K D = true) : ErrC K D := by
  unfold errChk at h
  simp only [Bool.and_eq_true, decide_eq_true_eq] at h
  obtain ⟨h1, h2, h3, h4, h5, h6, h7, h8⟩ := h
  exact ⟨h1, h2, h3, h4, h5, h6, h7, h8⟩
/-- an error of the class D stands at a -/
def IsErr (H : Hp) (a D : Addr) : Prop := H a = some (ExO (.ref D) a) ∨ ∃ (d : Addr) (fs : List (Str × V)), H a = some (exo a D (some d)) ∧ H d = some (exd d fs)
def rIsX (K : PySem.W.Frag) : List V → Hp → VK → Prop := fun xs H Q => ∃ (a D : Addr) (c : V) (cv : Value) (b : Bool), xs = [.ref a, c] ∧ IsErr H a D ∧ ClsV c cv ∧ ErrC K D ∧ PySem.W.kitOne K (.ref D) cv = some b ∧ Q (.bl b) H
theorem call_isX {X : Cx} : CallR X (.builtin "isinstance") (rIsX X.K) := by
  intro pins s σ H xs us Q I r h
  obtain ⟨a, D, c, cv, b, rfl, he, hcv, T, e, q⟩ := h
  obtain ⟨u1, u2, rfl, r1, r2⟩ := vals2 r
  cases (show u1 = Value.ref a from r1)
  have e2 := hcv.eq r2
  subst e2
  have fin : ∀ tk, EP X pins σ Q (.bool b) { s with toks := tk } := fun tk => ⟨.bl b, H, I.kept (t' := tk) fun _ _ z => z, rfl, q⟩
  rcases he with he | ⟨d, fs, he, hd⟩
  · obtain ⟨⟨oe, vs, h1, hz, h2, _⟩, _, _⟩ := I.hok a _ he
    obtain ⟨oc, od, oda, osl⟩ := oe
    obtain ⟨z1, z2⟩ := hz
    dsimp only at z1 z2 h2
    subst z1 z2 h2
    exact PySem.W.kia_one (PySem.W.kitx_exc (od := none) T.cs T.ga T.gg T.exC T.cc T.cg T.ct T.mo) I.kIn ⟨h1, rfl, rfl, trivial⟩ e (fun z => nomatch z) fin
  · obtain ⟨t1, h1⟩ := exo_at I.hok he
    obtain ⟨mA, hns, _⟩ := exd_at I.hok hd
    obtain ⟨od, ho, _⟩ := lookIn_ns hns
    exact PySem.W.kia_one (PySem.W.kitx_exc (od := some od) T.cs T.ga T.gg T.exC T.cc T.cg T.ct T.mo) I.kIn ⟨h1, rfl, rfl, ho⟩ e (fun z => nomatch z) fin
/-- the error that is pinned -/
def rIsP (K : PySem.W.Frag) (p : Addr × Obj) : List V → Hp → VK → Prop := fun xs H Q => ∃ (D : Addr) (c : V) (cv : Value) (b : Bool), xs = [.ref p.1, c] ∧ (p.2.cls = .ref D ∧ p.2.dict = none ∧ ∃ vs, p.2.data = .fields vs) ∧ ClsV c cv ∧ ErrC K D ∧ PySem.W.kitOne K (.ref D) cv = some b ∧ Q (.bl b) H
theorem call_isP {X : Cx} {p : Addr × Obj} (hp : p ∈ X.pn) : CallR X (.builtin "isinstance") (rIsP X.K p) := by
  intro pins s σ H xs us Q I r h
  obtain ⟨D, c, cv, b, rfl, ⟨z1, z2, vs, z3⟩, hcv, T, e, q⟩ := h
  obtain ⟨u1, u2, rfl, r1, r2⟩ := vals2 r
  cases (show u1 = Value.ref p.1 from r1)
  have e2 := hcv.eq r2
  subst e2
  obtain ⟨h1, _⟩ := I.pin p (List.mem_append_left _ hp)
  obtain ⟨a, ⟨oc, od, oda, osl⟩⟩ := p
  dsimp only at z1 z2 z3 h1
  subst z1 z2 z3
  exact PySem.W.kia_one (PySem.W.kitx_exc (od := none) T.cs T.ga T.gg T.exC T.cc T.cg T.ct T.mo) I.kIn ⟨h1, rfl, rfl, trivial⟩ e (fun z => nomatch z) (fun tk => ⟨.bl b, H, I.kept (t' := tk) fun _ _ z => z, rfl, q⟩)
/-! ### text * int -/
def rMulS : R2 := fun x y H Q => ∃ (a : Str) (n : Int), x = .str a ∧ y = .int n ∧ MulOk a n ∧ Q (.str (Txt.mul a n)) H
theorem op_mulS {X : Cx} : OpR X (binaryOp .Mult) rMulS := by
  intro pins s σ H x y v u Q I rx ry h
  obtain ⟨a, n, rfl, rfl, hok, q⟩ := h
  obtain ⟨t, rfl⟩ := rx
  obtain ⟨t', rfl⟩ := ry
  exact SB.mul hok fun t' k => ⟨.str _, H, I.kept (t' := k) fun _ _ z => z, ⟨_, rfl⟩, q⟩
end OwX

namespace OwX
open PySem PySem.Spec PyProof.Rows L2 L2H
/-! ### repr of data: None, bools, ints, texts, tuples, lists, dicts of data -/
mutual
inductive Dq (K : PySem.W.Frag) (H : Hp) : V → PyData → Prop
  | non : Dq K H .non .none
  | bl (b : Bool) : Dq K H (.bl b) (.bool b)
  | int (i : Int) : Dq K H (.int i) (.int i)
  | str (x : Str) : Dq K H (.str x) (.str x)
  | lst {a : Addr} {xs : List V} {ds : List PyData} : SqL K H a xs → a ≠ sysModules → DqAll K H xs ds → Dq K H (.ref a) (.list ds)
  | tup {a : Addr} {xs : List V} {ds : List PyData} : SqT K H a xs → DqAll K H xs ds → Dq K H (.ref a) (.tuple ds)
  | dic {a : Addr} {kvs : List (Key × V)} {kds : List (PyData × PyData)} : H a = some (.dK kvs) → DqAll K H (kvs.map fun p => kV p.1) (kds.map (·.1)) → DqAll K H (kvs.map (·.2)) (kds.map (·.2)) → Dq K H (.ref a) (.dict kds)
inductive DqAll (K : PySem.W.Frag) (H : Hp) : List V → List PyData → Prop
  | nil : DqAll K H [] []
  | cons {v : V} {vs : List V} {d : PyData} {ds : List PyData} : Dq K H v d → DqAll K H vs ds → DqAll K H (v :: vs) (d :: ds)
end
theorem rel_key {k : Key} {v : Value} (h : keyIs k v = true) : RelV (kV k) v := by
  rcases keyIs_shape h with ⟨i, t, rfl, rfl⟩ | ⟨x, t, rfl, rfl⟩
  · exact ⟨t, rfl⟩
  · exact ⟨t, rfl⟩
theorem pairs_vals {P : Program} {w : World} : ∀ {es : List DictEntry} {vs : List (Key × Value)} {kvs : List (Key × V)}, Pairs (mixKind P w) es vs → KV kvs vs → Vals (kvs.map fun p => kV p.1) (es.map (·.key)) ∧ Vals (kvs.map (·.2)) (es.map (·.val))
  | _, _, _, .nil, r => by cases r; exact ⟨.nil, .nil⟩
  | _, _, _, .cons h1 h2 h3, r => by
    cases r with
    | @cons p q _ _ r1 r2 =>
      obtain ⟨z1, z2⟩ := pairs_vals h3 r2
      refine ⟨.cons ?_ z1, .cons ?_ z2⟩
      · show RelV (kV p.1) _
        rw [r1.1]
        exact rel_key h1
      · show RelV p.2 (DictEntry.val _)
        rw [h2]
        exact r1.2
/-- a dict's entries, as the object bears them -/
theorem dict_entries {P : Program} {w : World} {h : Heap} {a : Addr} {kvs : List (Key × V)} {vs : List (Key × Value)} (kv : KV kvs vs) (m : h.DictOf (mixKind P w) a vs) :
    ∃ (o : Obj) (es : Array DictEntry) (n : Nat), h.get? a = some o ∧ o.cls = .type "dict" ∧ o.data = .dict es n ∧ Vals (kvs.map fun p => kV p.1) (es.toList.map (·.key)) ∧ Vals (kvs.map (·.2)) (es.toList.map (·.val)) := by
  obtain ⟨o, es, ep, e, ex, d, _, r, _⟩ := m
  obtain ⟨z1, z2⟩ := pairs_vals r kv
  exact ⟨o, es, ep, e, ex.1, d, z1, z2⟩
section
variable {X : Cx} {pins : List (Addr × Obj)} {σ : L2.St} {H : Hp} {s : Shared}
mutual
theorem Dq.reads (I : Inv X pins σ H s) : ∀ {v : V} {d : PyData} {u : Value}, Dq X.K H v d → RelV v u → ∃ as, Reads s.heap u d as ∧ sysModules ∉ as
  | _, _, _, .non, r => by cases r; exact ⟨_, Reads.none, by simp⟩
  | _, _, _, .bl b, r => by cases r; exact ⟨_, Reads.bool b, by simp⟩
  | _, _, _, .int i, r => by obtain ⟨t, rfl⟩ := r; exact ⟨_, Reads.int i t, by simp⟩
  | _, _, _, .str x, r => by obtain ⟨t, rfl⟩ := r; exact ⟨_, Reads.str x t, by simp⟩
  | _, _, _, .lst hs hn ha, r => by
    cases r
    obtain ⟨its, rv, ⟨o, n, ho, hc, _, hd⟩, _⟩ := I.list hs
    obtain ⟨as, hr, hz⟩ := DqAll.reads I ha rv
    exact ⟨_, Reads.list ho hc hd hr, by simp only [List.mem_cons, not_or]; exact ⟨fun e => hn e.symm, hz⟩⟩
  | _, _, _, .tup hs ha, r => by
    cases r
    obtain ⟨its, rv, ⟨o, ho, hc, n, hd⟩, _⟩ := I.tuple hs
    obtain ⟨as, hr, hz⟩ := DqAll.reads I ha rv
    exact ⟨_, Reads.tuple ho hc hd hr, hz⟩
  | _, _, _, .dic hs h1 h2, r => by
    cases r
    obtain ⟨_, hS, vs, kv, m⟩ := (show ObjOk X.prog X.w H s.heap _ (.dK _) from I.hok _ _ hs)
    obtain ⟨o, es, n, e1, e2, e3, r1, r2⟩ := dict_entries kv m
    obtain ⟨as, q1, z1⟩ := DqAll.reads I h1 r1
    obtain ⟨bs, q2, z2⟩ := DqAll.reads I h2 r2
    refine ⟨_, Reads.dict e1 e2 e3 q1 q2, ?_⟩
    simp only [List.cons_append, List.mem_cons, List.mem_append, not_or]
    exact ⟨fun e => by rw [← e] at hS; simp at hS, z1, z2⟩
theorem DqAll.reads (I : Inv X pins σ H s) : ∀ {vs : List V} {ds : List PyData} {us : List Value}, DqAll X.K H vs ds → Vals vs us → ∃ as, ReadsAll s.heap us ds as ∧ sysModules ∉ as
  | _, _, _, .nil, r => by cases r; exact ⟨_, ReadsAll.nil, by simp⟩
  | _, _, _, .cons h1 h2, r => by
    cases r with
    | cons r1 r2 =>
      obtain ⟨as, q1, z1⟩ := Dq.reads I h1 r1
      obtain ⟨bs, q2, z2⟩ := DqAll.reads I h2 r2
      exact ⟨_, ReadsAll.cons q1 q2, by simp only [List.mem_append, not_or]; exact ⟨z1, z2⟩⟩
end
end
def rRepr (K : PySem.W.Frag) : List V → Hp → VK → Prop := fun xs H Q => ∃ (v : V) (d : PyData), xs = [v] ∧ Dq K H v d ∧ d.showable = true ∧ d.depth ≤ 16 ∧ d.shown.length ≤ sizeLine ∧ Q (.str d.shown) H
theorem call_reprD {X : Cx} (hg : X.A.guards = some []) (hu : X.A.units + 40 < cLine) : CallR X (.builtin "repr") (rRepr X.K) := by
  intro pins s σ H xs us Q I r h
  obtain ⟨v, d, rfl, hd, hs, hdp, hz, q⟩ := h
  obtain ⟨u, rfl, ru⟩ := vals1 r
  obtain ⟨as, hr, hn⟩ := Dq.reads I hd ru
  have fin : ∀ (t : Tok) (x : Str), x = d.shown → ∀ s' : Shared, (∃ h' tk, (∀ b o, s.heap.get? b = some o → h'.get? b = some o) ∧ s' = { s with heap := h', toks := tk }) → EP X pins σ Q (.str x t) s' := fun t x e s' ⟨h', tk, k, e2⟩ => by
    subst e e2
    exact ⟨.str d.shown, H, I.kept (t' := tk) k, ⟨t, rfl⟩, q⟩
  cases hd with
  | non => cases ru; exact P.repr_of_none (fin _ _ (by simp only [PyData.shown]) _ ⟨_, _, fun _ _ e => e, rfl⟩)
  | bl b => cases ru; exact P.repr_of_bool (fin _ _ (by cases b <;> simp only [PyData.shown] <;> rfl) _ ⟨_, _, fun _ _ e => e, rfl⟩)
  | int i =>
    obtain ⟨t, rfl⟩ := ru
    exact P.repr_of_int (by simpa [PyData.showable] using hs) (fin _ _ (by simp only [PyData.shown]) _ ⟨_, _, fun _ _ e => e, rfl⟩)
  | str x =>
    obtain ⟨t, rfl⟩ := ru
    exact P.repr_of_str (fin _ _ (by simp only [PyData.shown]) _ ⟨_, _, fun _ _ e => e, rfl⟩) (by simpa only [PyData.shown] using hz)
  | lst _ _ _ =>
    cases ru
    exact repr_of_reads' hr hs (fun _ => hn) hg (by omega) (fun _ _ e => e) (fun h' u tk hk => fin u _ rfl _ ⟨h', tk, hk, rfl⟩) hz
  | tup _ _ =>
    cases ru
    exact repr_of_reads' hr hs (fun _ => hn) hg (by omega) (fun _ _ e => e) (fun h' u tk hk => fin u _ rfl _ ⟨h', tk, hk, rfl⟩) hz
  | dic _ _ _ =>
    cases ru
    exact repr_of_reads' hr hs (fun _ => hn) hg (by omega) (fun _ _ e => e) (fun h' u tk hk => fin u _ rfl _ ⟨h', tk, hk, rfl⟩) hz
/-! ### new lists, known to be others than the modules' dict -/
theorem past_mods {X : Cx} {pins : List (Addr × Obj)} {σ : L2.St} {H : Hp} {s : Shared} (I : Inv X pins σ H s) {p : Addr} (h : s.heap.objs.size ≤ p) : p ≠ sysModules := by
  have h1 : mainGlobals < X.base.objs.size := I.mod.glob.lt
  have h2 := I.ok.bsz
  have h3 := I.sz
  have h1' : (3 : Nat) < X.base.objs.size := h1
  intro e
  have e' : @Eq Nat p 1 := e
  omega
def tLstN (t : TA) : TE := fun σ H Q => t σ H fun xs H1 => xs.length ≤ sizeLine ∧ ∀ p, H1 p = none → p ≠ sysModules → Q (.ref p) (upd H1 p (.lst xs))
theorem pe_lstN {X : Cx} {es : List Expr} {t : TA} {pos : Pos} (h : PA X es t) : PE X (.List es pos) (tLstN t) := by
  refine ⟨fun pins s σ H Q I hq => wpAny_List_spliced (thn (h.run pos pins s σ H _ I hq) fun us s1 ⟨xs, H1, I1, r, z, q⟩ => ⟨by rw [← r.length]; exact z, ?_⟩)⟩
  have hf : H1 s1.heap.objs.size = none := I1.hok.fresh (Nat.le_refl _)
  exact ⟨.ref s1.heap.objs.size, upd H1 s1.heap.objs.size (.lst xs), I1.laid (t' := s1.toks) (fun b u e => Heap.get?_push_of_some _ e) (Nat.le_refl _) ⟨z, us, 0, r, Heap.get?_push_size _ rfl⟩, rfl, q _ hf (past_mods I1 (Nat.le_refl _))⟩
def rCatN : R2 := fun x y H Q => ∃ l b xs zs, x = .ref l ∧ y = .ref b ∧ H l = some (.lst xs) ∧ H b = some (.lst zs) ∧ xs.length + zs.length ≤ sizeLine ∧ ∀ p, H p = none → p ≠ sysModules → Q (.ref p) (upd H p (.lst (xs ++ zs)))
theorem op_catN {X : Cx} : OpR X (binaryOp .Add) rCatN := by
  intro pins s σ H x y v u Q I rx ry h
  obtain ⟨l, b, xs, zs, rfl, rfl, hl, hb, hz, q⟩ := h
  cases rx
  cases ry
  obtain ⟨_, i1, n1, r1, _, e1⟩ := I.lstM hl
  obtain ⟨_, i2, n2, r2, _, e2⟩ := I.lstM hb
  have ea : i1.toArray ++ i2.toArray = (i1 ++ i2).toArray := by simp
  refine PySem.P.add_list e1 e2 ?_ (by (rw [List.size_toArray, List.size_toArray]; omega))
  rw [ea]
  exact ⟨.ref _, _, I.lnew (t' := s.toks) (r1.append r2) (by (rw [List.length_append]; omega)), rfl, q _ I.fresh (past_mods I (Nat.le_refl _))⟩
end OwX

/-! try with several clauses, some of them with a name -/
namespace OwX
open PySem PySem.Spec PyProof.Rows L2
/-- a clause's class, its name's slot, its suite -/
abbrev Cl3 := Value × Option Nat × (Addr → Value → Option Addr → TS)
def atSlot (i : Option Nat) (D : Ends) : Ends := match i with
  | none => D
  | some i => { nx := fun σ' H' => D.nx (σ'.set i none) H', rt := D.rt, bk := fun σ' H' => D.bk (σ'.set i none) H', ct := fun σ' H' => D.ct (σ'.set i none) H' }
def slotted (i : Option Nat) (σ : L2.St) (a : Addr) : L2.St := match i with
  | none => σ
  | some i => σ.set i (some (.ref a))
def wMix (K : PySem.W.Frag) (Wout : WX) (D : Ends) : List Cl3 → WX
  | [] => Wout
  | (c, i, ts) :: r => fun cls d σ H => ∃ b, PySem.W.exmOne K cls c = some b ∧ (b = true → ∀ a, H a = none → ts a cls d (atSlot i D) (slotted i σ a) H) ∧ (b = false → wMix K Wout D r cls d σ H)
inductive Clauses (X : Cx) : List ExceptHandler → List Cl3 → Prop
  | nil : Clauses X [] []
  | plain {x : Str} {c : Value} {ts : Addr → Value → Option Addr → TS} {b₀ : Stmt} {suite : List Stmt} {np pos' : Pos} {hds : List ExceptHandler} {l : List Cl3} (hc : Names X x c)
      (hsu : ∀ (a : Addr) (oe : Obj) (cls : Value) (d : Option Addr) (pn : List (Addr × Obj)), Zc cls d oe → (∃ vs, oe.data = .fields vs) → PSs (X.suite a ((a, oe) :: pn)) (b₀ :: suite) (ts a cls d)) (r : Clauses X hds l) :
      Clauses X (.ExceptHandler (some (.Name x np)) none (b₀ :: suite) pos' :: hds) ((c, none, ts) :: l)
  | named {x n : Str} {i : Nat} {c : Value} {ts : Addr → Value → Option Addr → TS} {b₀ : Stmt} {suite : List Stmt} {np pos' : Pos} {hds : List ExceptHandler} {l : List Cl3} (hN : X.N.Nodup) (hi : X.N[i]? = some n) (hln : X.env.kindOf n = some .local) (hc : Names X x c)
      (hsu : ∀ (a : Addr) (oe : Obj) (cls : Value) (d : Option Addr) (pn : List (Addr × Obj)), Zc cls d oe → (∃ vs, oe.data = .fields vs) → PSs (X.suite a ((a, oe) :: pn)) (b₀ :: suite) (ts a cls d)) (r : Clauses X hds l) :
      Clauses X (.ExceptHandler (some (.Name x np)) (some n) (b₀ :: suite) pos' :: hds) ((c, some i, ts) :: l)
section
variable {X : Cx} {body : List Stmt} {h₀ : ExceptHandler} {hds : List ExceptHandler} {l : List Cl3} {pos : Pos} {tb : WX → TS} {Wout : WX}
theorem ps_try_mix (hs : X.stack = X.env :: X.outer) (hf : X.env.frame = some X.env.locals) (tk : Takes X Wout)
    (hb : ∀ (W : WX) (pn : List (Addr × Obj)) (xe : Value → Shared → Prop), Takes (X.tr pn xe) W → PassesOwn (model X.prog X.w) X.A X.env xe → PSs (X.tr pn xe) body (tb W)) (hh : Clauses X (h₀ :: hds) l) :
    PS X (.Try body (h₀ :: hds) [] [] pos) (fun D σ H => tb (wMix X.K Wout D l) D σ H) := by
  refine ⟨fun pins s σ H D I h => wpAny_Try_except ?_⟩
  have ok := I.ok
  have hfr : X.A.frames = some (X.env :: X.outer) := ok.frames.trans (by rw [hs])
  refine wpAny_mono ((hb (wMix X.K Wout D l) (X.pn ++ pins) (fun e s₁ => wpAny (model X.prog X.w) X.A (noteFrame e X.env) (fun _ s₂ => wpAny (model X.prog X.w) X.A (setFlight e none) (fun _ s₃ => wpAny (model X.prog X.w) X.A (handleBy e X.env (h₀ :: hds)) (SP X pins D) X.xe s₃) X.xe s₂) X.xe s₁)
    (fun u s' xx => ?_) PassesOwn.looking).run [] s σ H D (I.toTry _) h) (fun f s1 hsp => ?_) (fun _ _ he => he)
  · obtain ⟨a, B, sI, pins', σ', H', cls, d, rfl, J', nb, up, sky, na, os, ag, w⟩ := xx
    have J : Inv X pins σ' H' sI := J'.ofTry ok
    have sk : Sky B (X.env :: X.outer) a (Zc cls d) X.env.locals s'.heap := hs ▸ sky
    show wpAny (model X.prog X.w) X.A (noteFrame (.ref a) X.env) _ _ _
    refine Sky.land Zc.steady hfr hf sk fun h3 fl3 up3 => ?_
    have J3 : Inv X pins σ' H' { s' with heap := h3 } := J.landed nb fl3.1 (up.trans up3) os ag
    obtain ⟨oe3, vs3, he3, hz3, hd3⟩ := fl3.there
    have nfr : a ∉ frs (X.env :: X.outer) := fun hm => by
      obtain ⟨_, o', e', hnf⟩ := fl3.2.2.1.mem hm
      exact hnf _ (by rw [he3] at e'; cases e'; exact hd3)
    have nL : a ≠ X.env.locals := fun z => nfr (List.mem_filterMap.mpr ⟨X.env, List.mem_cons_self, hf.trans (congrArg some z.symm)⟩)
    have nF : a ∉ X.fs := fun hm => (List.mem_filterMap.mp hm).elim fun e q => nfr (List.mem_filterMap.mpr ⟨e, List.mem_cons_of_mem _ q.1, q.2⟩)
    have S3 := J3.suite he3 hd3 na nL nF
    have test : ∀ {x : Str} {c : Value} {np : Pos} {Q : Value → Shared → Prop} {E : Value → Shared → Prop}, Names X x c → Q c { s' with heap := h3 } → wpAny (model X.prog X.w) (X.A.mark (some (.ref a))) (eval (.Name x np) X.env) Q E { s' with heap := h3 } := fun hc q => by
      obtain ⟨z1, z2, z3 | ⟨z3, z4, z5⟩⟩ := hc
      · exact ld_glob (X := X.suite a ((a, oe3) :: (X.pn ++ pins))) S3 z1 z3 q z2
      · exact ld_blt (X := X.suite a ((a, oe3) :: (X.pn ++ pins))) S3 z1 z3 z4 q z5 z2
    have go : ∀ {hs' : List ExceptHandler} {l' : List Cl3}, Clauses X hs' l' → wMix X.K Wout D l' cls d σ' H' → wpAny (model X.prog X.w) X.A (handleBy (.ref a) X.env hs') (SP X pins D) X.xe { s' with heap := h3 } := by
      intro hs' l' hk
      induction hk with
      | nil =>
        intro w
        obtain ⟨_, _, _, oe, vs, T, oT, ts', he, hz, hd, h1, hr⟩ := id fl3
        refine wpAny_handleBy_nil ?_
        unfold PySem.passOn
        refine wpAny_bind (wpAny_field he hd h1 ?_)
        rw [if_neg (by simp)]
        have fin : wpAny (model X.prog X.w) X.A (setFlight (.ref a) X.env.frame) (fun _ s4 => wpAny (model X.prog X.w) X.A (throw (.ref a) : Sem Flow) (SP X pins D) X.xe s4) X.xe { s' with heap := h3 } := by
          rw [hf]
          exact HandSPX.setFlight_upZ fl3 fun h4 hh4 up4 => wpAny_throw (tk _ _ ⟨a, B, sI, pins, σ', H', cls, d, rfl, J, nb, (up.trans up3).trans up4, .inr (.inr (by rw [hs]; exact hh4)), na, os, ag, w⟩)
        first | exact wpAny_bind (wpAny_pure (wpAny_bind fin)) | exact wpAny_bind fin
      | @plain x c ts b₀ suite np pos' hds2 l2 hc hsu r ih =>
        rintro ⟨b, hb1, hy, hn⟩
        refine wpAny_handleBy_cons (codeAny_handlers_test (test hc ?_)) (by intro q; cases q)
        refine (PySem.W.exm_one (M := model X.prog X.w) J3.kIn (fun _ _ _ _ k q => wpAny_typeOf_ref (k _ _ he3) (by rw [hz3.1]; exact q)) hb1).here ?_
        cases b with
        | false => exact ih (hn rfl)
        | true =>
          refine codeAny_handlers_suite (HandSPX.lands_againZ fl3 fun h4 fl4 up4 => ?_)
          have J4 : Inv X pins σ' H' { s' with heap := h4 } := J.landed nb fl4.1 ((up.trans up3).trans up4) os ag
          obtain ⟨oe4, vs4, he4, hz4, hd4⟩ := fl4.there
          refine wpAny_mono ((hsu a oe4 cls d (X.pn ++ pins) hz4 ⟨_, hd4⟩).run [] _ _ H' _ (J4.suite he4 hd4 na nL nF) (hy rfl a na)) (fun f s6 hsp => ?_) (fun _ _ z => False.elim z)
          cases f with
          | ret u => obtain ⟨_, _, _, S6, r6, q6⟩ := hsp; exact ⟨_, _, _, S6.unsuite ok, r6, q6⟩
          | _ => obtain ⟨_, _, S6, q6⟩ := hsp; exact ⟨_, _, S6.unsuite ok, q6⟩
      | @named x n i c ts b₀ suite np pos' hds2 l2 hN hi hln hc hsu r ih =>
        rintro ⟨b, hb1, hy, hn⟩
        refine wpAny_handleBy_cons (codeAny_handlers_test (test hc ?_)) (by intro q; cases q)
        refine (PySem.W.exm_one (M := model X.prog X.w) J3.kIn (fun _ _ _ _ k q => wpAny_typeOf_ref (k _ _ he3) (by rw [hz3.1]; exact q)) hb1).here ?_
        cases b with
        | false => exact ih (hn rfl)
        | true =>
          refine codeAny_handlers_suite_as (HandSPX.lands_againZ fl3 fun h4 fl4 up4 => ?_)
          have J4 : Inv X pins σ' H' { s' with heap := h4 } := J.landed nb fl4.1 ((up.trans up3).trans up4) os ag
          obtain ⟨oe4, vs4, he4, hz4, hd4⟩ := fl4.there
          refine store_ok (X := X.suite a ((a, oe4) :: (X.pn ++ pins))) (v := .ref a) (J4.suite he4 hd4 na nL nF) hN hi (Or.inl hln : Loc X.env.scope n) rfl (fun s5 S5 => ?_) (.inr hln)
          refine wpAny_mono ((hsu a oe4 cls d (X.pn ++ pins) hz4 ⟨_, hd4⟩).run [] s5 _ H' _ S5 (hy rfl a na)) (fun f s6 hsp => ?_) (fun _ _ z => False.elim z)
          have gone : ∀ {σ6 : L2.St} {H6 : Hp} {Q : Shared → Prop}, Inv (X.suite a ((a, oe4) :: (X.pn ++ pins))) [] σ6 H6 s6 → (∀ s7, Inv X pins (σ6.set i none) H6 s7 → Q s7) → wpAny (model X.prog X.w) X.A (do bindName X.env n .none; unbindBehindTheSuite X.env n pos') (fun _ s7 => Q s7) X.xe s6 :=
            fun S6 hq => gone_ok (S6.unsuite ok) hN hi hln hq
          cases f with
          | ret u => obtain ⟨_, _, _, S6, r6, q6⟩ := hsp; exact gone S6 fun s7 J7 => ⟨_, _, _, J7, r6, q6⟩
          | _ => obtain ⟨_, _, S6, q6⟩ := hsp; exact gone S6 fun s7 J7 => ⟨_, _, J7, q6⟩
    exact go hh w
  · cases f with
    | next => obtain ⟨σ', H', J', q⟩ := hsp; exact wpAny_execs_nil ⟨σ', H', J'.ofTry ok, q⟩
    | ret u => obtain ⟨v, σ', H', J', r, q⟩ := hsp; exact ⟨v, σ', H', J'.ofTry ok, r, q⟩
    | _ => obtain ⟨σ', H', J', q⟩ := hsp; exact ⟨σ', H', J'.ofTry ok, q⟩
end
end OwX

/-! Readings, one step at a time: each row takes the outermost word of a reading away. -/
namespace Rd
open PySem PySem.Spec PyProof.Rows L2 OwX
section
variable {σ : L2.St} {H : Hp} {Q : VK} {i : Nat} {v x y : V} {te ta tb tc : TE} {tr t u : TT} {ts tu : TS} {D : Ends} {tl tl' : TA} {r r' : R2}
theorem var (h : σ[i]? = some (some v)) (q : Q v H) : tVar i σ H Q := ⟨v, h, q⟩
theorem con (q : Q v H) : tC v σ H Q := q
theorem op (q : ta σ H fun x H1 => tb σ H1 fun y H2 => r x y H2 Q) : tOp r ta tb σ H Q := q
theorem un {r : V → Hp → VK → Prop} (q : ta σ H fun x H1 => r x H1 Q) : tUn r ta σ H Q := q
theorem nil {Q : List V → Hp → Prop} (q : Q [] H) : tNil σ H Q := q
theorem cons {Q : List V → Hp → Prop} (q : te σ H fun x H1 => tl σ H1 fun xs H2 => Q (x :: xs) H2) : tCons te tl σ H Q := q
theorem tup (q : tl σ H fun xs H1 => xs.length ≤ sizeLine ∧ ∀ p, H1 p = none → Q (.ref p) (upd H1 p (.tup xs))) : tTup tl σ H Q := q
theorem lst (q : tl σ H fun xs H1 => xs.length ≤ sizeLine ∧ ∀ p, H1 p = none → Q (.ref p) (upd H1 p (.lst xs))) : tLst tl σ H Q := q
theorem lstN (q : tl σ H fun xs H1 => xs.length ≤ sizeLine ∧ ∀ p, H1 p = none → p ≠ sysModules → Q (.ref p) (upd H1 p (.lst xs))) : tLstN tl σ H Q := q
theorem cb {r : List V → Hp → VK → Prop} (q : tl σ H fun vs H1 => r vs H1 Q) : tCB r tl σ H Q := q
theorem call {sp : Sp} {dvs : List V} {E : XK} (q : tl σ H fun vs H1 => sp (vs ++ dvs) H1 Q E) : tCall sp dvs E tl σ H Q := q
theorem callS {sp : Sp} {E : L2.St → XK} (q : tl σ H fun vs H1 => sp vs H1 Q (E σ)) : tCallS sp E tl σ H Q := q
theorem seq (q : ts { D with nx := tu D } σ H) : tSeq ts tu D σ H := q
theorem asg {g : TG} (q : te σ H fun x H1 => g x σ H1 D.nx) : tAsg te g D σ H := q
theorem gn {Q : L2.St → Hp → Prop} (q : Q (σ.set i (some v)) H) : gName i v σ H Q := q
theorem gs {to ti : TE} {t : TSet} {Q : L2.St → Hp → Prop} (q : to σ H fun o H1 => ti σ H1 fun i H2 => t o i v H2 fun H3 => Q σ H3) : gSub to ti t v σ H Q := q
theorem ret (q : te σ H D.rt) : tRet te D σ H := q
theorem nxt (q : D.nx σ H) : tNext D σ H := q
theorem drop (q : te σ H fun _ H1 => D.nx σ H1) : tDrop te D σ H := q
theorem ifs (q : t σ H fun b H1 => if b = true then ts D σ H1 else tu D σ H1) : tIfS t ts tu D σ H := q
theorem ite (q : t σ H fun c H1 => if c = true then ta σ H1 Q else tb σ H1 Q) : tIf t ta tb σ H Q := q
theorem test {Q : Bool → Hp → Prop} (q : te σ H fun x H' => ∃ k, x = .bl k ∧ Q k H') : tTest te σ H Q := q
theorem tbb {Q : Bool → Hp → Prop} (q : te σ H fun x H1 => ∃ c, x = .bl c ∧ Q c H1) : tB te σ H Q := q
theorem bl {Q : Bool → Prop} {b : Bool} (q : Q b) : ∃ k, V.bl b = .bl k ∧ Q k := ⟨b, rfl, q⟩
theorem and {Q : Bool → Hp → Prop} (q : t σ H fun c H1 => if c = true then u σ H1 Q else Q false H1) : tAnd t u σ H Q := q
theorem or {Q : Bool → Hp → Prop} (q : t σ H fun c H1 => if c = true then Q true H1 else u σ H1 Q) : tOr t u σ H Q := q
theorem not {Q : Bool → Hp → Prop} (q : t σ H fun c H1 => Q (!c) H1) : tNot t σ H Q := q
theorem ii {g : Int → Int → V} {i j : Int} (q : Q (g i j) H) : rI0 g (.int i) (.int j) H Q := ⟨i, j, rfl, rfl, q⟩
theorem ic {C : Int → Int → Prop} {g : Int → Int → V} {i j : Int} (c : C i j) (q : Q (g i j) H) : rI C g (.int i) (.int j) H Q := ⟨i, j, rfl, rfl, c, q⟩
theorem iu {g : Int → V} {i : Int} (q : Q (g i) H) : rU g (.int i) H Q := ⟨i, rfl, q⟩
theorem eq (h : scal x y = true) (q : Q (.bl (decide (x = y))) H) : rEq x y H Q := ⟨h, q⟩
theorem ne (h : scal x y = true) (q : Q (.bl (!decide (x = y))) H) : rNe x y H Q := ⟨h, q⟩
theorem ixl {K : PySem.W.Frag} {p : Addr} {xs : List V} {i : Int} (h : SqL K H p xs) (e : atI xs i = some v) (q : Q v H) : rIxL K (.ref p) (.int i) H Q := ⟨p, xs, i, v, rfl, rfl, h, e, q⟩
theorem ixt {K : PySem.W.Frag} {p : Addr} {xs : List V} {i : Int} (h : SqT K H p xs) (e : atI xs i = some v) (q : Q v H) : rIxT K (.ref p) (.int i) H Q := ⟨p, xs, i, v, rfl, rfl, h, e, q⟩
theorem setl {p : Addr} {xs : List V} {k : Int} {j : Nat} {Q : Hp → Prop} (h : H p = some (.lst xs)) (e : ixN xs.length k = some j) (q : Q (upd H p (.lst (xs.set j v)))) : rSetL (.ref p) (.int k) v H Q := ⟨p, xs, k, j, rfl, rfl, h, e, q⟩
end
end Rd

local macro_rules | `(tactic| walk_at "rd") => `(tactic| repeat (first
  | ((with_reducible refine' Rd.var ?hv ?_); (case hv => rfl)) | (with_reducible refine Rd.con ?_) | (with_reducible refine Rd.op ?_) | (with_reducible refine Rd.cons ?_) | (with_reducible refine Rd.nil ?_) | (with_reducible refine Rd.cb ?_) | (with_reducible refine Rd.seq ?_)
  | (with_reducible refine Rd.asg ?_) | (with_reducible refine Rd.gn ?_) | (with_reducible refine Rd.gs ?_) | (with_reducible refine Rd.ret ?_) | (with_reducible refine Rd.nxt ?_) | (with_reducible refine Rd.drop ?_) | (with_reducible refine Rd.ifs ?_) | (with_reducible refine Rd.ite ?_) | (with_reducible refine Rd.test ?_)
  | (with_reducible refine Rd.tbb ?_) | (with_reducible refine Rd.bl ?_) | (with_reducible refine Rd.and ?_) | (with_reducible refine Rd.or ?_) | (with_reducible refine Rd.not ?_) | (with_reducible refine Rd.ii ?_) | (with_reducible refine Rd.un ?_) | (with_reducible refine Rd.iu ?_) | (with_reducible refine Rd.call ?_) | (with_reducible refine Rd.callS ?_)
  | (with_reducible refine Rd.tup ?_) | (with_reducible refine Rd.lst ?_) | (with_reducible refine Rd.lstN ?_)))
namespace Ow
open PySem L2 OwX
def top (i : Nat) : Stmt := PySem.Challenge.pw_owedround_k01_errors_and_what_they_keep.main.body.getD i (.Pass ⟨0, 0, 0, 0⟩)
abbrev sDice : Stmt := top 23
abbrev sRoll : Stmt := top 24
abbrev sPick : Stmt := top 25
/-- what stands in a law's dice -/
def DiceOk (l s n : Int) : Prop := 0 ≤ l ∧ 0 ≤ s ∧ 0 ≤ n
def dice (l s n : Int) : HO := .lst [.int l, .int s, .int n]
structure Blt (mg : Str → Option Value) : Prop where
  len : mg "len" = none
  int : mg "int" = none
  max : mg "max" = none
  min : mg "min" = none
  abs : mg "abs" = none
  range : mg "range" = none
def spRoll : Sp := fun vs H Q _ => ∃ (a : Addr) (l s n t : Int), vs = [.ref a, .int t] ∧ H a = some (dice l s n) ∧ DiceOk l s n ∧ 0 < t ∧ t ≤ 1000000 ∧ ∀ r l' s' n', 0 ≤ r → r < t → DiceOk l' s' n' → Q (.int r) (upd H a (dice l' s' n'))
section
variable {P : Program} {w : World} {K : PySem.W.Frag} {mg : Str → Option Value} {base : Heap}
theorem scRoll : FnScope ["_law_dice_here", "_law_total", "_law_found", "_law_one", "_law_two"] ["_law_dice_here", "_law_total"] (defScope sRoll) := ⟨rfl, rfl, rfl, by decide +kernel, rfl, by decide +kernel, by decide +kernel⟩
theorem ok_roll {f : Addr} {fd : FuncData} (F : Fun K "_law_roll" "_law_roll" sRoll f fd) (T : Blt mg) : FnOk P w K mg base CX0 1 f fd ["_law_dice_here", "_law_total"] spRoll := by
  have nd := scRoll.nd
  refine F.ok scRoll (fun vs H Q E h => ?_) (fun cdv A outer s H vs Q E hr h => ⟨_, (pss_cons (ps_if (pt_cmpR op_gt (pe_ix ix_list (pv 0) pe_int (fun _ _ => rfl)) pe_int (nomark _)) (pss_cons (ps_set (i := 2) nd rfl (Or.inl rfl) (pe_op op_mod (pe_callTy call_int1 (by rfl) T.int (by decide +kernel) (pa_cons (pe_ix ix_list (pv 0) pe_int (fun _ _ => rfl)) pa_nil)) (pv 1)))
    (pss_cons (ps_asg (pe_op op_fdiv (pe_ix ix_list (pv 0) pe_int (fun _ _ => rfl)) (pv 1)) (pg_sub (pv 0) pe_int set_list))
    (pss_one (ps_ret (pv 2))))) pss_nil)
    (pss_cons (ps_asg (pe_op op_add (pe_ix ix_list (pv 0) pe_int (fun _ _ => rfl)) pe_int) (pg_sub (pv 0) pe_int set_list))
    (pss_cons (ps_set (i := 3) nd rfl (Or.inl rfl) (pe_op op_mod (pe_callTy call_int1 (by rfl) T.int (by decide +kernel) (pa_cons (pe_op op_add (pe_ix ix_list (pv 0) pe_int (fun _ _ => rfl)) (pe_op op_mul pe_int (pe_ix ix_list (pv 0) pe_int (fun _ _ => rfl)))) pa_nil)) pe_int))
    (pss_cons (ps_set (i := 4) nd rfl (Or.inl rfl) (pe_op op_add (pe_op op_mul (pe_op op_mod (pe_callTy call_int1 (by rfl) T.int (by decide +kernel) (pa_cons (pe_op op_add (pe_op op_mul (pv 3) (pv 3)) (pe_op op_mul pe_int (pe_ix ix_list (pv 0) pe_int (fun _ _ => rfl)))) pa_nil)) pe_int) pe_int) (pv 3)))
    (pss_one (ps_ret (pe_op op_mod (pe_callTy call_int1 (by rfl) T.int (by decide +kernel) (pa_cons (pe_op op_fdiv (pv 4) pe_int) pa_nil)) (pv 1)))))))), ?_⟩)
  · obtain ⟨a, l, s, n, t, rfl, _⟩ := h
    rfl
  · obtain ⟨a, l, s, n, t, rfl, hH, ⟨hl, hs, hn⟩, ht, ht2, k⟩ := h
    have hS : SqL K H a [.int l, .int s, .int n] := SqL.of hH
    have e0 : ∀ x y z : Int, atI [V.int x, V.int y, V.int z] (0 : Int) = some (V.int x) := fun _ _ _ => rfl
    have e1 : ∀ x y z : Int, atI [V.int x, V.int y, V.int z] (1 : Int) = some (V.int y) := fun _ _ _ => rfl
    have e2 : ∀ x y z : Int, atI [V.int x, V.int y, V.int z] (2 : Int) = some (V.int z) := fun _ _ _ => rfl
    walk_at "rd"
    refine Rd.ixl hS (e0 _ _ _) ?_
    walk_at "rd"
    refine ite2 (fun c => ?_) (fun c => ?_)
    · have c' : 0 < l := of_decide_eq_true c
      walk_at "rd"
      refine Rd.ixl hS (e0 _ _ _) ?_
      walk_at "rd"
      refine Or.inl ⟨l, rfl, ?_⟩
      walk_at "rd"
      refine Rd.ic ht ?_
      walk_at "rd"
      refine Rd.ixl hS (e0 _ _ _) ?_
      walk_at "rd"
      refine Rd.ic ⟨ht, by omega⟩ ?_
      walk_at "rd"
      refine Rd.setl hH rfl ?_
      walk_at "rd"
      exact k _ _ _ _ (Int.emod_nonneg _ (by omega)) (Int.emod_lt_of_pos _ ht) ⟨Int.ediv_nonneg hl (by omega), hs, hn⟩
    · walk_at "rd"
      refine Rd.ixl hS (e2 _ _ _) ?_
      walk_at "rd"
      refine Rd.setl hH rfl ?_
      have hH2 : (upd H a (HO.lst ([V.int l, V.int s, V.int n].set (Int.toNat 2) (V.int (n + 1))))) a = some (dice l s (n + 1)) := upd_same
      have hS2 : SqL K (upd H a (HO.lst ([V.int l, V.int s, V.int n].set (Int.toNat 2) (V.int (n + 1))))) a [.int l, .int s, .int (n + 1)] := SqL.of hH2
      walk_at "rd"
      refine Rd.ixl hS2 (e1 _ _ _) ?_
      walk_at "rd"
      refine Rd.ixl hS2 (e2 _ _ _) ?_
      refine Rd.ic (Or.inl ⟨by decide, by decide⟩) ?_
      walk_at "rd"
      refine Or.inl ⟨_, rfl, ?_⟩
      walk_at "rd"
      refine Rd.ic (by decide) ?_
      generalize h1 : (s + 57885161 * (n + 1)) % 2305843009213693907 = one
      have b1 : 0 ≤ one ∧ one < 2305843009213693907 := by omega
      walk_at "rd"
      refine Rd.ic (Or.inl ⟨by omega, by omega⟩) ?_
      walk_at "rd"
      refine Rd.ixl hS2 (e2 _ _ _) ?_
      refine Rd.ic (Or.inl ⟨by decide, by decide⟩) ?_
      walk_at "rd"
      refine Or.inl ⟨_, rfl, ?_⟩
      walk_at "rd"
      refine Rd.ic (by decide) ?_
      walk_at "rd"
      refine Rd.ic (Or.inr ⟨by decide, by decide⟩) ?_
      walk_at "rd"
      refine Rd.ic ⟨by decide, by decide⟩ ?_
      walk_at "rd"
      refine Or.inl ⟨_, rfl, ?_⟩
      walk_at "rd"
      refine Rd.ic ht ?_
      exact k _ _ _ _ (Int.emod_nonneg _ (by omega)) (Int.emod_lt_of_pos _ ht) ⟨hl, hs, by omega⟩
theorem scPick : FnScope ["_law_dice_here", "_law_items"] ["_law_dice_here", "_law_items"] (defScope sPick) := ⟨rfl, rfl, rfl, by decide +kernel, rfl, by decide +kernel, by decide +kernel⟩
def spPick (K : PySem.W.Frag) : Sp := fun vs H Q _ => ∃ (a b : Addr) (l s n : Int) (xs : List V), vs = [.ref a, .ref b] ∧ a ≠ b ∧ H a = some (dice l s n) ∧ DiceOk l s n ∧ H b = some (.lst xs) ∧ 0 < xs.length ∧ xs.length ≤ 1000000 ∧ ∀ x l' s' n', x ∈ xs → DiceOk l' s' n' → Q x (upd H a (dice l' s' n'))
theorem rollBinds {f : Addr} {fd : FuncData} (F : Fun K "_law_roll" "_law_roll" sRoll f fd) : Binds K fd ["_law_dice_here", "_law_total"] [] := F.binds fun _ _ _ _ _ _ us hl => match us, hl with | [_, _], _ => rfl
theorem ok_pick {f fr : Addr} {fd fdr : FuncData} (F : Fun K "_law_pick" "_law_pick" sPick f fd) (T : Blt mg) (FR : Fun K "_law_roll" "_law_roll" sRoll fr fdr) (gR : mg "_law_roll" = some (.ref fr)) :
    FnOk P w K mg base CX0 2 f fd ["_law_dice_here", "_law_items"] (spPick K) := by
  have nd := scPick.nd
  have GR : FnOk P w K mg base CX0 1 fr fdr ["_law_dice_here", "_law_total"] spRoll := ok_roll FR T
  have bR := rollBinds FR
  refine F.ok scPick (fun vs H Q E h => ?_) (fun cdv A outer s H vs Q E hr h => ⟨_, (pss_one (ps_ret (pe_ix ix_list (pv 1) (pe_call GR hr rfl gR FR.kp bR .nil pass0 (pa_cons (pv 0) (pa_cons (pe_callB call_len_seq (by rfl) T.len (by decide +kernel) (pa_cons (pv 1) pa_nil)) pa_nil))) (fun _ _ => rfl)))), ?_⟩)
  · obtain ⟨a, b, l, s, n, xs, rfl, _⟩ := h
    rfl
  · obtain ⟨a, b, l, s, n, xs, rfl, hab, hH, hd, hb, h0, h1, k⟩ := h
    walk_at "rd"
    refine ⟨_, _, rfl, Or.inl (SqL.of hb), ?_⟩
    walk_at "rd"
    refine ⟨a, l, s, n, _, rfl, hH, hd, by omega, by omega, fun r l' s' n' r0 r1 hd' => ?_⟩
    have hb' : upd H a (dice l' s' n') b = some (.lst xs) := (upd_ne (Ne.symm hab)).trans hb
    obtain ⟨m, rfl⟩ := Int.eq_ofNat_of_zero_le r0
    have hm : m < xs.length := by omega
    refine Rd.ixl (SqL.of hb') (v := xs[m]) ?_ (k _ _ _ _ (List.getElem_mem hm) hd')
    exact atI_nat (List.getElem?_eq_getElem hm)
theorem scDice : FnScope ["_law_script", "_law_spot", "_law_cell", "_law_left"] ["_law_script", "_law_spot"] (defScope sDice) := ⟨rfl, rfl, rfl, by decide +kernel, rfl, by decide +kernel, by decide +kernel⟩
def spDice (K : PySem.W.Frag) : Sp := fun vs H Q _ => ∃ (a : Addr) (t : Int) (ns : List Int), vs = [.ref a, .int t] ∧ 0 ≤ t ∧ t ≤ 1000 ∧ SqL K H a (ns.map V.int) ∧ ∀ p l s, H p = none → p ≠ sysModules → DiceOk l s 0 → Q (.ref p) (upd H p (dice l s 0))
theorem sz3 (a b c : V) : [a, b, c].length ≤ sizeLine := by
  rw [sizeLine_eq]
  exact (by decide : 3 ≤ 16777216)
theorem ok_dice {f : Addr} {fd : FuncData} (F : Fun K "_law_dice" "_law_dice" sDice f fd) (T : Blt mg) : FnOk P w K mg base CX0 1 f fd ["_law_script", "_law_spot"] (spDice K) := by
  have nd := scDice.nd
  refine F.ok scDice (fun vs H Q E h => ?_) (fun cdv A outer s H vs Q E hr h => ⟨_, (pss_cons (ps_set (i := 2) nd rfl (Or.inl rfl) (pe_ifExp (pt_cmpR op_lt (pv 1) (pe_callB call_len_seq (by rfl) T.len (by decide +kernel) (pa_cons (pv 0) pa_nil)) (nomark _)) (pe_callTy call_int1 (by rfl) T.int (by decide +kernel) (pa_cons (pe_ix ix_list (pv 0) (pv 1) (fun _ _ => rfl)) pa_nil)) (pe_op op_add (pe_op op_mul pe_int (pv 1)) pe_int)))
    (pss_cons (ps_set (i := 3) nd rfl (Or.inl rfl) (pe_op op_mod (pe_callB (call_max2 rfl) (by rfl) T.max (by decide +kernel) (pa_cons pe_int (pa_cons (pe_op op_sub (pe_callB call_abs (by rfl) T.abs (by decide +kernel) (pa_cons (pv 2) pa_nil)) (pe_op op_pow pe_int pe_int)) pa_nil))) (pe_op op_mulW (pe_op op_pow pe_int pe_int) (pe_op op_pow pe_int pe_int))))
    (pss_one (ps_ret (pe_lstN (pa_cons (pv 3) (pa_cons (pe_op op_add (pe_op op_add (pe_op op_add (pe_op op_mul (pe_op op_mod (pe_callB call_abs (by rfl) T.abs (by decide +kernel) (pa_cons (pv 2) pa_nil)) pe_int) pe_int) (pe_op op_mul pe_int (pv 1))) (pe_op op_mul pe_int (pe_callTy call_int1 (by rfl) T.int (by decide +kernel) (pa_cons (pe_cmpR op_lt (pv 2) pe_int (nomark _)) pa_nil)))) pe_int) (pa_cons pe_int pa_nil)))))))), ?_⟩)
  · obtain ⟨a, t, ns, rfl, _⟩ := h
    rfl
  · obtain ⟨a, t, ns, rfl, h0, h1, hS, k⟩ := h
    walk_at "rd"
    refine ⟨_, _, rfl, Or.inl hS, ?_⟩
    walk_at "rd"
    refine ite2 (fun c => ?_) (fun c => ?_)
    have c' : t < ((ns.map V.int).length : Int) := of_decide_eq_true c
    obtain ⟨m, rfl⟩ := Int.eq_ofNat_of_zero_le h0
    have hm : m < ns.length := by rw [List.length_map] at c'; omega
    walk_at "rd"
    refine Rd.ixl hS (v := .int ns[m]) (atI_nat (by rw [List.getElem?_map, List.getElem?_eq_getElem hm]; rfl)) ?_
    walk_at "rd"
    refine Or.inl ⟨_, rfl, ?_⟩
    generalize ns[m] = z
    rotate_left
    walk_at "rd"
    refine Rd.ic (Or.inl ⟨by decide, by decide⟩) ?_
    generalize 59 * t + 31 = z
    all_goals
      walk_at "rd"
      refine ⟨_, rfl, ?_⟩
      walk_at "rd"
      refine Rd.ic ⟨by decide, by decide, by decide⟩ ?_
      walk_at "rd"
      refine ⟨_, _, rfl, ?_⟩
      walk_at "rd"
      refine Rd.ic ⟨by decide, by decide, by decide⟩ ?_
      walk_at "rd"
      refine Rd.ic ⟨by decide, by decide, by decide⟩ ?_
      refine Rd.ic (by unfold CMulW; decide +kernel) ?_
      refine Rd.ic (by decide +kernel) ?_
      walk_at "rd"
      refine ⟨_, rfl, ?_⟩
      walk_at "rd"
      refine Rd.ic (by decide) ?_
      walk_at "rd"
      refine Rd.ic (Or.inr ⟨by decide, by decide⟩) ?_
      walk_at "rd"
      refine Rd.ic (Or.inl ⟨by decide, by decide⟩) ?_
      walk_at "rd"
      refine Or.inr ⟨_, rfl, ?_⟩
      walk_at "rd"
      refine Rd.ic (Or.inl ⟨by decide, by decide⟩) ?_
      walk_at "rd"
      refine ⟨sz3 _ _ _, fun p hp hpm => k p _ _ hp hpm ⟨?_, ?_, by decide⟩⟩
      · exact Int.emod_nonneg _ (by decide)
      · have e1 := Int.emod_nonneg (if z < 0 then -z else z) (by decide : (1152921504606846883 : Int) ≠ 0)
        have e2 : (0 : Int) ≤ if decide (z < 0) = true then 1 else 0 := by split <;> decide
        omega
end
end Ow

namespace Rd
open PySem PySem.Spec PyProof.Rows L2 OwX
/-- a text, or the empty one -/
def bit (b : Bool) (s : Str) : Str := if b = true then s else Str.empty
theorem bit_le {b : Bool} {s : Str} {n : Nat} (h : s.length = n) : (bit b s).length ≤ n := by
  cases b
  · exact Nat.zero_le _
  · exact Nat.le_of_eq h
theorem app_le {x y : Str} {m n : Nat} (h : x.length ≤ m) (k : y.length ≤ n) : (x ++ y).length ≤ m + n := by
  rw [PySem.Str.length_append]
  omega
section
variable {σ : L2.St} {H : Hp} {Q : VK}
theorem mulB {b : Bool} {s : Str} (q : Q (.str (bit b s)) H) : rMulS (.str s) (.int (if b = true then 1 else 0)) H Q := by
  refine ⟨s, _, rfl, rfl, ?_, ?_⟩
  · cases b
    · exact ⟨by decide, fun z => absurd (by decide : (0 : Int) < 1) z, fun z => absurd (by decide : (0 : Int) < 1) z⟩
    · exact ⟨by decide, (fun _ z => by simp at z), (fun _ z => by simp at z)⟩
  · have e : Txt.mul s (if b = true then 1 else 0) = bit b s := by cases b <;> simp [Txt.mul, bit]
    rw [e]
    exact q
theorem adds {Q : Str → Str → Prop} {x y : Str} {m n : Nat} (h : x.length ≤ m) (k : y.length ≤ n) (z : m + n ≤ 16777216) (q : Q x y) : (∃ i j, V.str x = .str i ∧ V.str y = .str j ∧ i.length + j.length ≤ sizeLine ∧ Q i j) :=
  ⟨x, y, rfl, rfl, by rw [sizeLine_eq]; omega, q⟩
theorem isx {K : PySem.W.Frag} {a D C : Addr} {b : Bool} (he : IsErr H a D) (hc : ErrC K D) (k : PySem.W.kitOne K (.ref D) (.ref C) = some b) (q : Q (.bl b) H) : rIsX K [.ref a, .ref C] H Q := ⟨a, D, .ref C, .ref C, b, rfl, he, .own C, hc, k, q⟩
theorem isxT {K : PySem.W.Frag} {a D : Addr} {n : String} {b : Bool} (he : IsErr H a D) (hc : ErrC K D) (k : PySem.W.kitOne K (.ref D) (.type n) = some b) (q : Q (.bl b) H) : rIsX K [.ref a, .ty n] H Q := ⟨a, D, .ty n, .type n, b, rfl, he, .ty n, hc, k, q⟩
theorem isp {K : PySem.W.Frag} {p : Addr × Obj} {D C : Addr} {b : Bool} (he : p.2.cls = .ref D ∧ p.2.dict = none ∧ ∃ vs, p.2.data = .fields vs) (hc : ErrC K D) (k : PySem.W.kitOne K (.ref D) (.ref C) = some b) (q : Q (.bl b) H) : rIsP K p [.ref p.1, .ref C] H Q := ⟨D, .ref C, .ref C, b, rfl, he, .own C, hc, k, q⟩
theorem intB {R : Int → Prop} {Q : Bool → Prop} {b : Bool} (q : Q b) : (∃ i, [V.bl b] = [.int i] ∧ R i) ∨ ∃ k, [V.bl b] = [.bl k] ∧ Q k := Or.inr ⟨b, rfl, q⟩
end
end Rd
namespace Ow
open PySem L2 L2H OwX
/-- the own classes' globals -/
structure ClsG (mg : Str → Option Value) (A : Nat → Addr) : Prop where
  g0 : mg "WebError" = some (.ref (A 0))
  g1 : mg "InvalidPlace" = some (.ref (A 1))
  g2 : mg "InvalidTie" = some (.ref (A 2))
  g3 : mg "InvalidRing" = some (.ref (A 3))
  g4 : mg "InvalidWeb" = some (.ref (A 4))
  g5 : mg "InvalidTable" = some (.ref (A 5))
  g6 : mg "InvalidRim" = some (.ref (A 6))
  g7 : mg "InvalidDebts" = some (.ref (A 7))
  g8 : mg "InvalidPlan" = some (.ref (A 8))
  g9 : mg "InvalidTree" = some (.ref (A 9))
  g10 : mg "InvalidRide" = some (.ref (A 10))
  g11 : mg "InvalidLeaning" = some (.ref (A 11))
  g12 : mg "InvalidTurn" = some (.ref (A 12))
  g13 : mg "InvalidDrawing" = some (.ref (A 13))
  g14 : mg "InvalidOperation" = some (.ref (A 14))
  g15 : mg "ParseError" = some (.ref (A 15))
  g16 : mg "UnknownName" = some (.ref (A 16))
  g17 : mg "InvalidNumber" = some (.ref (A 17))
  g18 : mg "NothingToUndo" = some (.ref (A 18))
  g19 : mg "TooMany" = some (.ref (A 19))
  g20 : mg "Refused" = some (.ref (A 20))
/-- the built-ins that the law speaks of are not bound anew -/
structure BltX (mg : Str → Option Value) : Prop where
  isinst : mg "isinstance" = none
  int : mg "int" = none
  e0 : mg "ValueError" = none
  e1 : mg "KeyError" = none
  e2 : mg "IndexError" = none
  e3 : mg "LookupError" = none
  e4 : mg "RuntimeError" = none
  e5 : mg "OverflowError" = none
  e6 : mg "ArithmeticError" = none
def subOwn (i j : Nat) : Bool := i == j || (j == 0 && decide (i < 16))
def bnames : List String := ["ValueError", "KeyError", "IndexError", "LookupError", "RuntimeError", "OverflowError", "ArithmeticError"]
def subB (i j : Nat) : Bool := match j with
  | 0 => decide (i < 16)
  | 1 => i == 16
  | 2 => i == 17
  | 3 => i == 16 || i == 17
  | 4 => i == 18
  | 5 => i == 19
  | _ => i == 19 || i == 20
structure ClsK (K : PySem.W.Frag) (A : Nat → Addr) : Prop where
  er : ∀ i, i < 21 → ErrC K (A i)
  own : ∀ i j, i < 21 → j < 21 → PySem.W.kitOne K (.ref (A i)) (.ref (A j)) = some (subOwn i j)
  blt : ∀ i j, i < 21 → j < 7 → PySem.W.kitOne K (.ref (A i)) (.type (bnames.getD j "")) = some (subB i j)
abbrev sLetters : Stmt := top 27
abbrev sKinds : Stmt := top 28
abbrev sAll : Stmt := top 29
def letS (i : Nat) : Str :=
  Rd.bit (subOwn i 1) "a" ++ Rd.bit (subOwn i 2) "b" ++ Rd.bit (subOwn i 3) "c" ++ Rd.bit (subOwn i 4) "d" ++ Rd.bit (subOwn i 5) "e" ++ Rd.bit (subOwn i 6) "f" ++ Rd.bit (subOwn i 7) "g" ++ Rd.bit (subOwn i 8) "h" ++ Rd.bit (subOwn i 9) "i" ++ Rd.bit (subOwn i 10) "j"
    ++ Rd.bit (subOwn i 11) "k" ++ Rd.bit (subOwn i 12) "l" ++ Rd.bit (subOwn i 13) "m" ++ Rd.bit (subOwn i 14) "n"
def kinS (i : Nat) : Str :=
  Rd.bit (subOwn i 15) "P" ++ Rd.bit (subOwn i 16) "U" ++ Rd.bit (subOwn i 17) "N" ++ Rd.bit (subOwn i 18) "Z" ++ Rd.bit (subOwn i 19) "M" ++ Rd.bit (subOwn i 20) "R" ++ Rd.bit (subOwn i 0) " web" ++ Rd.bit (subB i 0) " value" ++ Rd.bit (subB i 1) " key" ++ Rd.bit (subB i 2) " index"
    ++ Rd.bit (subB i 3) " lookup" ++ Rd.bit (subB i 4) " runtime" ++ Rd.bit (subB i 5) " overflow" ++ Rd.bit (subB i 6) " arithmetic"
def spErr (A : Nat → Addr) (f : Nat → Str) : Sp := fun vs H Q _ => ∃ (a : Addr) (i : Nat), vs = [.ref a] ∧ i < 21 ∧ IsErr H a (A i) ∧ Q (.str (f i)) H
def spErrP (A : Nat → Addr) (f : Nat → Str) (p : Addr × Obj) : Sp := fun vs H Q _ => ∃ (i : Nat), vs = [.ref p.1] ∧ i < 21 ∧ (p.2.cls = .ref (A i) ∧ p.2.dict = none ∧ ∃ vs, p.2.data = .fields vs) ∧ Q (.str (f i)) H
section
variable {P : Program} {w : World} {K : PySem.W.Frag} {mg : Str → Option Value} {base : Heap} {A : Nat → Addr}
theorem scLetters : FnScope ["_law_error", "_law_found"] ["_law_error"] (defScope sLetters) := ⟨rfl, rfl, rfl, by decide +kernel, rfl, by decide +kernel, by decide +kernel⟩
theorem scKinds : FnScope ["_law_error", "_law_found"] ["_law_error"] (defScope sKinds) := ⟨rfl, rfl, rfl, by decide +kernel, rfl, by decide +kernel, by decide +kernel⟩
theorem scAll : FnScope ["_law_error"] ["_law_error"] (defScope sAll) := ⟨rfl, rfl, rfl, by decide +kernel, rfl, by decide +kernel, by decide +kernel⟩
theorem ok_letters {f : Addr} {fd : FuncData} (F : Fun K "_law_letters" "_law_letters" sLetters f fd) (T : BltX mg) (G : ClsG mg A) (C : ClsK K A) : FnOk P w K mg base CX0 1 f fd ["_law_error"] (spErr A letS) := by
  have nd := scLetters.nd
  refine F.ok scLetters (fun vs H Q E h => ?_) (fun cdv A' outer s H vs Q E hr h => ⟨_, (pss_cons (ps_set (i := 1) nd rfl (Or.inl rfl) (pe_op op_add_str (pe_op op_mulS pe_str (pe_callTy call_int1 (by rfl) T.int (by decide +kernel) (pa_cons (pe_callB call_isX (by rfl) T.isinst (by decide +kernel) (pa_cons (pv 0) (pa_cons (pe_glob (v := .ref (A 1)) (by rfl) G.g1 rfl) pa_nil))) pa_nil))) (pe_op op_mulS pe_str (pe_callTy call_int1 (by rfl) T.int (by decide +kernel) (pa_cons (pe_callB call_isX (by rfl) T.isinst (by decide +kernel) (pa_cons (pv 0) (pa_cons (pe_glob (v := .ref (A 2)) (by rfl) G.g2 rfl) pa_nil))) pa_nil)))))
    (pss_cons (ps_set (i := 1) nd rfl (Or.inl rfl) (pe_op op_add_str (pe_op op_add_str (pv 1) (pe_op op_mulS pe_str (pe_callTy call_int1 (by rfl) T.int (by decide +kernel) (pa_cons (pe_callB call_isX (by rfl) T.isinst (by decide +kernel) (pa_cons (pv 0) (pa_cons (pe_glob (v := .ref (A 3)) (by rfl) G.g3 rfl) pa_nil))) pa_nil)))) (pe_op op_mulS pe_str (pe_callTy call_int1 (by rfl) T.int (by decide +kernel) (pa_cons (pe_callB call_isX (by rfl) T.isinst (by decide +kernel) (pa_cons (pv 0) (pa_cons (pe_glob (v := .ref (A 4)) (by rfl) G.g4 rfl) pa_nil))) pa_nil)))))
    (pss_cons (ps_set (i := 1) nd rfl (Or.inl rfl) (pe_op op_add_str (pe_op op_add_str (pv 1) (pe_op op_mulS pe_str (pe_callTy call_int1 (by rfl) T.int (by decide +kernel) (pa_cons (pe_callB call_isX (by rfl) T.isinst (by decide +kernel) (pa_cons (pv 0) (pa_cons (pe_glob (v := .ref (A 5)) (by rfl) G.g5 rfl) pa_nil))) pa_nil)))) (pe_op op_mulS pe_str (pe_callTy call_int1 (by rfl) T.int (by decide +kernel) (pa_cons (pe_callB call_isX (by rfl) T.isinst (by decide +kernel) (pa_cons (pv 0) (pa_cons (pe_glob (v := .ref (A 6)) (by rfl) G.g6 rfl) pa_nil))) pa_nil)))))
    (pss_cons (ps_set (i := 1) nd rfl (Or.inl rfl) (pe_op op_add_str (pe_op op_add_str (pv 1) (pe_op op_mulS pe_str (pe_callTy call_int1 (by rfl) T.int (by decide +kernel) (pa_cons (pe_callB call_isX (by rfl) T.isinst (by decide +kernel) (pa_cons (pv 0) (pa_cons (pe_glob (v := .ref (A 7)) (by rfl) G.g7 rfl) pa_nil))) pa_nil)))) (pe_op op_mulS pe_str (pe_callTy call_int1 (by rfl) T.int (by decide +kernel) (pa_cons (pe_callB call_isX (by rfl) T.isinst (by decide +kernel) (pa_cons (pv 0) (pa_cons (pe_glob (v := .ref (A 8)) (by rfl) G.g8 rfl) pa_nil))) pa_nil)))))
    (pss_cons (ps_set (i := 1) nd rfl (Or.inl rfl) (pe_op op_add_str (pe_op op_add_str (pv 1) (pe_op op_mulS pe_str (pe_callTy call_int1 (by rfl) T.int (by decide +kernel) (pa_cons (pe_callB call_isX (by rfl) T.isinst (by decide +kernel) (pa_cons (pv 0) (pa_cons (pe_glob (v := .ref (A 9)) (by rfl) G.g9 rfl) pa_nil))) pa_nil)))) (pe_op op_mulS pe_str (pe_callTy call_int1 (by rfl) T.int (by decide +kernel) (pa_cons (pe_callB call_isX (by rfl) T.isinst (by decide +kernel) (pa_cons (pv 0) (pa_cons (pe_glob (v := .ref (A 10)) (by rfl) G.g10 rfl) pa_nil))) pa_nil)))))
    (pss_cons (ps_set (i := 1) nd rfl (Or.inl rfl) (pe_op op_add_str (pe_op op_add_str (pv 1) (pe_op op_mulS pe_str (pe_callTy call_int1 (by rfl) T.int (by decide +kernel) (pa_cons (pe_callB call_isX (by rfl) T.isinst (by decide +kernel) (pa_cons (pv 0) (pa_cons (pe_glob (v := .ref (A 11)) (by rfl) G.g11 rfl) pa_nil))) pa_nil)))) (pe_op op_mulS pe_str (pe_callTy call_int1 (by rfl) T.int (by decide +kernel) (pa_cons (pe_callB call_isX (by rfl) T.isinst (by decide +kernel) (pa_cons (pv 0) (pa_cons (pe_glob (v := .ref (A 12)) (by rfl) G.g12 rfl) pa_nil))) pa_nil)))))
    (pss_one (ps_ret (pe_op op_add_str (pe_op op_add_str (pv 1) (pe_op op_mulS pe_str (pe_callTy call_int1 (by rfl) T.int (by decide +kernel) (pa_cons (pe_callB call_isX (by rfl) T.isinst (by decide +kernel) (pa_cons (pv 0) (pa_cons (pe_glob (v := .ref (A 13)) (by rfl) G.g13 rfl) pa_nil))) pa_nil)))) (pe_op op_mulS pe_str (pe_callTy call_int1 (by rfl) T.int (by decide +kernel) (pa_cons (pe_callB call_isX (by rfl) T.isinst (by decide +kernel) (pa_cons (pv 0) (pa_cons (pe_glob (v := .ref (A 14)) (by rfl) G.g14 rfl) pa_nil))) pa_nil)))))))))))), ?_⟩)
  · obtain ⟨a, i, rfl, _⟩ := h
    rfl
  · obtain ⟨a, i, rfl, hi, he, k⟩ := h
    repeat (first
      | ((with_reducible refine' Rd.var ?hv ?_); (case hv => rfl)) | (with_reducible refine Rd.con ?_) | (with_reducible refine Rd.op ?_) | (with_reducible refine Rd.cons ?_) | (with_reducible refine Rd.nil ?_) | (with_reducible refine Rd.cb ?_) | (with_reducible refine Rd.seq ?_)
      | (with_reducible refine Rd.asg ?_) | (with_reducible refine Rd.gn ?_) | (with_reducible refine Rd.ret ?_)
      | (refine Rd.isx he (C.er _ hi) (C.own _ _ hi (by decide)) ?_)
      | (refine Rd.isxT he (C.er _ hi) (C.blt _ 0 hi (by decide)) ?_)
      | (refine Rd.isxT he (C.er _ hi) (C.blt _ 1 hi (by decide)) ?_)
      | (refine Rd.isxT he (C.er _ hi) (C.blt _ 2 hi (by decide)) ?_)
      | (refine Rd.isxT he (C.er _ hi) (C.blt _ 3 hi (by decide)) ?_)
      | (refine Rd.isxT he (C.er _ hi) (C.blt _ 4 hi (by decide)) ?_)
      | (refine Rd.isxT he (C.er _ hi) (C.blt _ 5 hi (by decide)) ?_)
      | (refine Rd.isxT he (C.er _ hi) (C.blt _ 6 hi (by decide)) ?_)
      | (refine Rd.intB ?_) | (refine Rd.mulB ?_)
      | ((refine' Rd.adds ?hx ?hy ?hz ?_); (case hx => (repeat (first | (with_reducible apply Rd.app_le) | exact Rd.bit_le rfl))); (case hy => (repeat (first | (with_reducible apply Rd.app_le) | exact Rd.bit_le rfl))); (case hz => decide +kernel)))
    exact k
/-- the same, of the error that is handled -/
theorem okP_letters {f : Addr} {fd : FuncData} (F : Fun K "_law_letters" "_law_letters" sLetters f fd) (T : BltX mg) (G : ClsG mg A) (C : ClsK K A) : PFn P w K mg base (L2.CX P w) 1 f fd ["_law_error"] (spErrP A letS) := by
  have nd := scLetters.nd
  refine pfn_of F scLetters (fun p vs H Q E h => ?_) (fun cdv A' outer s H vs Q E p hr h => ⟨_, (pss_cons (ps_set (i := 1) nd rfl (Or.inl rfl) (pe_op op_add_str (pe_op op_mulS pe_str (pe_callTy call_int1 (by rfl) T.int (by decide +kernel) (pa_cons (pe_callB (call_isP (List.mem_singleton.mpr rfl)) (by rfl) T.isinst (by decide +kernel) (pa_cons (pv 0) (pa_cons (pe_glob (v := .ref (A 1)) (by rfl) G.g1 rfl) pa_nil))) pa_nil))) (pe_op op_mulS pe_str (pe_callTy call_int1 (by rfl) T.int (by decide +kernel) (pa_cons (pe_callB (call_isP (List.mem_singleton.mpr rfl)) (by rfl) T.isinst (by decide +kernel) (pa_cons (pv 0) (pa_cons (pe_glob (v := .ref (A 2)) (by rfl) G.g2 rfl) pa_nil))) pa_nil)))))
    (pss_cons (ps_set (i := 1) nd rfl (Or.inl rfl) (pe_op op_add_str (pe_op op_add_str (pv 1) (pe_op op_mulS pe_str (pe_callTy call_int1 (by rfl) T.int (by decide +kernel) (pa_cons (pe_callB (call_isP (List.mem_singleton.mpr rfl)) (by rfl) T.isinst (by decide +kernel) (pa_cons (pv 0) (pa_cons (pe_glob (v := .ref (A 3)) (by rfl) G.g3 rfl) pa_nil))) pa_nil)))) (pe_op op_mulS pe_str (pe_callTy call_int1 (by rfl) T.int (by decide +kernel) (pa_cons (pe_callB (call_isP (List.mem_singleton.mpr rfl)) (by rfl) T.isinst (by decide +kernel) (pa_cons (pv 0) (pa_cons (pe_glob (v := .ref (A 4)) (by rfl) G.g4 rfl) pa_nil))) pa_nil)))))
    (pss_cons (ps_set (i := 1) nd rfl (Or.inl rfl) (pe_op op_add_str (pe_op op_add_str (pv 1) (pe_op op_mulS pe_str (pe_callTy call_int1 (by rfl) T.int (by decide +kernel) (pa_cons (pe_callB (call_isP (List.mem_singleton.mpr rfl)) (by rfl) T.isinst (by decide +kernel) (pa_cons (pv 0) (pa_cons (pe_glob (v := .ref (A 5)) (by rfl) G.g5 rfl) pa_nil))) pa_nil)))) (pe_op op_mulS pe_str (pe_callTy call_int1 (by rfl) T.int (by decide +kernel) (pa_cons (pe_callB (call_isP (List.mem_singleton.mpr rfl)) (by rfl) T.isinst (by decide +kernel) (pa_cons (pv 0) (pa_cons (pe_glob (v := .ref (A 6)) (by rfl) G.g6 rfl) pa_nil))) pa_nil)))))
    (pss_cons (ps_set (i := 1) nd rfl (Or.inl rfl) (pe_op op_add_str (pe_op op_add_str (pv 1) (pe_op op_mulS pe_str (pe_callTy call_int1 (by rfl) T.int (by decide +kernel) (pa_cons (pe_callB (call_isP (List.mem_singleton.mpr rfl)) (by rfl) T.isinst (by decide +kernel) (pa_cons (pv 0) (pa_cons (pe_glob (v := .ref (A 7)) (by rfl) G.g7 rfl) pa_nil))) pa_nil)))) (pe_op op_mulS pe_str (pe_callTy call_int1 (by rfl) T.int (by decide +kernel) (pa_cons (pe_callB (call_isP (List.mem_singleton.mpr rfl)) (by rfl) T.isinst (by decide +kernel) (pa_cons (pv 0) (pa_cons (pe_glob (v := .ref (A 8)) (by rfl) G.g8 rfl) pa_nil))) pa_nil)))))
    (pss_cons (ps_set (i := 1) nd rfl (Or.inl rfl) (pe_op op_add_str (pe_op op_add_str (pv 1) (pe_op op_mulS pe_str (pe_callTy call_int1 (by rfl) T.int (by decide +kernel) (pa_cons (pe_callB (call_isP (List.mem_singleton.mpr rfl)) (by rfl) T.isinst (by decide +kernel) (pa_cons (pv 0) (pa_cons (pe_glob (v := .ref (A 9)) (by rfl) G.g9 rfl) pa_nil))) pa_nil)))) (pe_op op_mulS pe_str (pe_callTy call_int1 (by rfl) T.int (by decide +kernel) (pa_cons (pe_callB (call_isP (List.mem_singleton.mpr rfl)) (by rfl) T.isinst (by decide +kernel) (pa_cons (pv 0) (pa_cons (pe_glob (v := .ref (A 10)) (by rfl) G.g10 rfl) pa_nil))) pa_nil)))))
    (pss_cons (ps_set (i := 1) nd rfl (Or.inl rfl) (pe_op op_add_str (pe_op op_add_str (pv 1) (pe_op op_mulS pe_str (pe_callTy call_int1 (by rfl) T.int (by decide +kernel) (pa_cons (pe_callB (call_isP (List.mem_singleton.mpr rfl)) (by rfl) T.isinst (by decide +kernel) (pa_cons (pv 0) (pa_cons (pe_glob (v := .ref (A 11)) (by rfl) G.g11 rfl) pa_nil))) pa_nil)))) (pe_op op_mulS pe_str (pe_callTy call_int1 (by rfl) T.int (by decide +kernel) (pa_cons (pe_callB (call_isP (List.mem_singleton.mpr rfl)) (by rfl) T.isinst (by decide +kernel) (pa_cons (pv 0) (pa_cons (pe_glob (v := .ref (A 12)) (by rfl) G.g12 rfl) pa_nil))) pa_nil)))))
    (pss_one (ps_ret (pe_op op_add_str (pe_op op_add_str (pv 1) (pe_op op_mulS pe_str (pe_callTy call_int1 (by rfl) T.int (by decide +kernel) (pa_cons (pe_callB (call_isP (List.mem_singleton.mpr rfl)) (by rfl) T.isinst (by decide +kernel) (pa_cons (pv 0) (pa_cons (pe_glob (v := .ref (A 13)) (by rfl) G.g13 rfl) pa_nil))) pa_nil)))) (pe_op op_mulS pe_str (pe_callTy call_int1 (by rfl) T.int (by decide +kernel) (pa_cons (pe_callB (call_isP (List.mem_singleton.mpr rfl)) (by rfl) T.isinst (by decide +kernel) (pa_cons (pv 0) (pa_cons (pe_glob (v := .ref (A 14)) (by rfl) G.g14 rfl) pa_nil))) pa_nil)))))))))))), ?_⟩)
  · obtain ⟨i, rfl, _⟩ := h
    rfl
  · obtain ⟨i, rfl, hi, he, k⟩ := h
    repeat (first
      | ((with_reducible refine' Rd.var ?hv ?_); (case hv => rfl)) | (with_reducible refine Rd.con ?_) | (with_reducible refine Rd.op ?_) | (with_reducible refine Rd.cons ?_) | (with_reducible refine Rd.nil ?_) | (with_reducible refine Rd.cb ?_) | (with_reducible refine Rd.seq ?_)
      | (with_reducible refine Rd.asg ?_) | (with_reducible refine Rd.gn ?_) | (with_reducible refine Rd.ret ?_)
      | (refine Rd.isp he (C.er _ hi) (C.own _ _ hi (by decide)) ?_)
      | (refine Rd.intB ?_) | (refine Rd.mulB ?_)
      | ((refine' Rd.adds ?hx ?hy ?hz ?_); (case hx => (repeat (first | (with_reducible apply Rd.app_le) | exact Rd.bit_le rfl))); (case hy => (repeat (first | (with_reducible apply Rd.app_le) | exact Rd.bit_le rfl))); (case hz => decide +kernel)))

    exact k
theorem ok_kinds {f : Addr} {fd : FuncData} (F : Fun K "_law_kinds" "_law_kinds" sKinds f fd) (T : BltX mg) (G : ClsG mg A) (C : ClsK K A) : FnOk P w K mg base CX0 1 f fd ["_law_error"] (spErr A kinS) := by
  have nd := scKinds.nd
  refine F.ok scKinds (fun vs H Q E h => ?_) (fun cdv A' outer s H vs Q E hr h => ⟨_, (pss_cons (ps_set (i := 1) nd rfl (Or.inl rfl) (pe_op op_add_str (pe_op op_mulS pe_str (pe_callTy call_int1 (by rfl) T.int (by decide +kernel) (pa_cons (pe_callB call_isX (by rfl) T.isinst (by decide +kernel) (pa_cons (pv 0) (pa_cons (pe_glob (v := .ref (A 15)) (by rfl) G.g15 rfl) pa_nil))) pa_nil))) (pe_op op_mulS pe_str (pe_callTy call_int1 (by rfl) T.int (by decide +kernel) (pa_cons (pe_callB call_isX (by rfl) T.isinst (by decide +kernel) (pa_cons (pv 0) (pa_cons (pe_glob (v := .ref (A 16)) (by rfl) G.g16 rfl) pa_nil))) pa_nil)))))
    (pss_cons (ps_set (i := 1) nd rfl (Or.inl rfl) (pe_op op_add_str (pe_op op_add_str (pv 1) (pe_op op_mulS pe_str (pe_callTy call_int1 (by rfl) T.int (by decide +kernel) (pa_cons (pe_callB call_isX (by rfl) T.isinst (by decide +kernel) (pa_cons (pv 0) (pa_cons (pe_glob (v := .ref (A 17)) (by rfl) G.g17 rfl) pa_nil))) pa_nil)))) (pe_op op_mulS pe_str (pe_callTy call_int1 (by rfl) T.int (by decide +kernel) (pa_cons (pe_callB call_isX (by rfl) T.isinst (by decide +kernel) (pa_cons (pv 0) (pa_cons (pe_glob (v := .ref (A 18)) (by rfl) G.g18 rfl) pa_nil))) pa_nil)))))
    (pss_cons (ps_set (i := 1) nd rfl (Or.inl rfl) (pe_op op_add_str (pe_op op_add_str (pv 1) (pe_op op_mulS pe_str (pe_callTy call_int1 (by rfl) T.int (by decide +kernel) (pa_cons (pe_callB call_isX (by rfl) T.isinst (by decide +kernel) (pa_cons (pv 0) (pa_cons (pe_glob (v := .ref (A 19)) (by rfl) G.g19 rfl) pa_nil))) pa_nil)))) (pe_op op_mulS pe_str (pe_callTy call_int1 (by rfl) T.int (by decide +kernel) (pa_cons (pe_callB call_isX (by rfl) T.isinst (by decide +kernel) (pa_cons (pv 0) (pa_cons (pe_glob (v := .ref (A 20)) (by rfl) G.g20 rfl) pa_nil))) pa_nil)))))
    (pss_cons (ps_set (i := 1) nd rfl (Or.inl rfl) (pe_op op_add_str (pe_op op_add_str (pv 1) (pe_op op_mulS pe_str (pe_callTy call_int1 (by rfl) T.int (by decide +kernel) (pa_cons (pe_callB call_isX (by rfl) T.isinst (by decide +kernel) (pa_cons (pv 0) (pa_cons (pe_glob (v := .ref (A 0)) (by rfl) G.g0 rfl) pa_nil))) pa_nil)))) (pe_op op_mulS pe_str (pe_callTy call_int1 (by rfl) T.int (by decide +kernel) (pa_cons (pe_callB call_isX (by rfl) T.isinst (by decide +kernel) (pa_cons (pv 0) (pa_cons (pe_bltn (v := .ty "ValueError") (by rfl) T.e0 (by decide +kernel) rfl) pa_nil))) pa_nil)))))
    (pss_cons (ps_set (i := 1) nd rfl (Or.inl rfl) (pe_op op_add_str (pe_op op_add_str (pv 1) (pe_op op_mulS pe_str (pe_callTy call_int1 (by rfl) T.int (by decide +kernel) (pa_cons (pe_callB call_isX (by rfl) T.isinst (by decide +kernel) (pa_cons (pv 0) (pa_cons (pe_bltn (v := .ty "KeyError") (by rfl) T.e1 (by decide +kernel) rfl) pa_nil))) pa_nil)))) (pe_op op_mulS pe_str (pe_callTy call_int1 (by rfl) T.int (by decide +kernel) (pa_cons (pe_callB call_isX (by rfl) T.isinst (by decide +kernel) (pa_cons (pv 0) (pa_cons (pe_bltn (v := .ty "IndexError") (by rfl) T.e2 (by decide +kernel) rfl) pa_nil))) pa_nil)))))
    (pss_cons (ps_set (i := 1) nd rfl (Or.inl rfl) (pe_op op_add_str (pv 1) (pe_op op_mulS pe_str (pe_callTy call_int1 (by rfl) T.int (by decide +kernel) (pa_cons (pe_callB call_isX (by rfl) T.isinst (by decide +kernel) (pa_cons (pv 0) (pa_cons (pe_bltn (v := .ty "LookupError") (by rfl) T.e3 (by decide +kernel) rfl) pa_nil))) pa_nil)))))
    (pss_cons (ps_set (i := 1) nd rfl (Or.inl rfl) (pe_op op_add_str (pv 1) (pe_op op_mulS pe_str (pe_callTy call_int1 (by rfl) T.int (by decide +kernel) (pa_cons (pe_callB call_isX (by rfl) T.isinst (by decide +kernel) (pa_cons (pv 0) (pa_cons (pe_bltn (v := .ty "RuntimeError") (by rfl) T.e4 (by decide +kernel) rfl) pa_nil))) pa_nil)))))
    (pss_cons (ps_set (i := 1) nd rfl (Or.inl rfl) (pe_op op_add_str (pv 1) (pe_op op_mulS pe_str (pe_callTy call_int1 (by rfl) T.int (by decide +kernel) (pa_cons (pe_callB call_isX (by rfl) T.isinst (by decide +kernel) (pa_cons (pv 0) (pa_cons (pe_bltn (v := .ty "OverflowError") (by rfl) T.e5 (by decide +kernel) rfl) pa_nil))) pa_nil)))))
    (pss_one (ps_ret (pe_op op_add_str (pv 1) (pe_op op_mulS pe_str (pe_callTy call_int1 (by rfl) T.int (by decide +kernel) (pa_cons (pe_callB call_isX (by rfl) T.isinst (by decide +kernel) (pa_cons (pv 0) (pa_cons (pe_bltn (v := .ty "ArithmeticError") (by rfl) T.e6 (by decide +kernel) rfl) pa_nil))) pa_nil)))))))))))))), ?_⟩)
  · obtain ⟨a, i, rfl, _⟩ := h
    rfl
  · obtain ⟨a, i, rfl, hi, he, k⟩ := h
    repeat (first
      | ((with_reducible refine' Rd.var ?hv ?_); (case hv => rfl)) | (with_reducible refine Rd.con ?_) | (with_reducible refine Rd.op ?_) | (with_reducible refine Rd.cons ?_) | (with_reducible refine Rd.nil ?_) | (with_reducible refine Rd.cb ?_) | (with_reducible refine Rd.seq ?_)
      | (with_reducible refine Rd.asg ?_) | (with_reducible refine Rd.gn ?_) | (with_reducible refine Rd.ret ?_)
      | (refine Rd.isx he (C.er _ hi) (C.own _ _ hi (by decide)) ?_)
      | (refine Rd.isxT he (C.er _ hi) (C.blt _ 0 hi (by decide)) ?_)
      | (refine Rd.isxT he (C.er _ hi) (C.blt _ 1 hi (by decide)) ?_)
      | (refine Rd.isxT he (C.er _ hi) (C.blt _ 2 hi (by decide)) ?_)
      | (refine Rd.isxT he (C.er _ hi) (C.blt _ 3 hi (by decide)) ?_)
      | (refine Rd.isxT he (C.er _ hi) (C.blt _ 4 hi (by decide)) ?_)
      | (refine Rd.isxT he (C.er _ hi) (C.blt _ 5 hi (by decide)) ?_)
      | (refine Rd.isxT he (C.er _ hi) (C.blt _ 6 hi (by decide)) ?_)
      | (refine Rd.intB ?_) | (refine Rd.mulB ?_)
      | ((refine' Rd.adds ?hx ?hy ?hz ?_); (case hx => (repeat (first | (with_reducible apply Rd.app_le) | exact Rd.bit_le rfl))); (case hy => (repeat (first | (with_reducible apply Rd.app_le) | exact Rd.bit_le rfl))); (case hz => decide +kernel)))

    exact k
def allS (i : Nat) : Str := letS i ++ kinS i
theorem letS_le (i : Nat) : (letS i).length ≤ 100 := by
  unfold letS
  refine' Nat.le_trans ?a ?b
  (case a => (repeat (first | (with_reducible apply Rd.app_le) | exact Rd.bit_le rfl)))
  (case b => decide +kernel)
theorem kinS_le (i : Nat) : (kinS i).length ≤ 200 := by
  unfold kinS
  refine' Nat.le_trans ?a ?b
  (case a => (repeat (first | (with_reducible apply Rd.app_le) | exact Rd.bit_le rfl)))
  (case b => decide +kernel)
theorem errBinds {x : Str} {st : Stmt} {f : Addr} {fd : FuncData} (F : Fun K x x st f fd)
    (h : ∀ (kV doc pm : Value) (an : Option Addr) (cdv ct : Value) (us : List Value), us.length = ["_law_error"].length → bindArgs (PySem.W.fnOf x x (defArgs st) (defBody st) (defScope st) .none kV doc pm an cdv ct) ⟨us, []⟩ = pure ((["_law_error"] : List Str).zip us)) : Binds K fd ["_law_error"] [] := F.binds h
theorem ok_all {f fl fk : Addr} {fd fdl fdk : FuncData} (F : Fun K "_law_all" "_law_all" sAll f fd) (FL : Fun K "_law_letters" "_law_letters" sLetters fl fdl) (FK : Fun K "_law_kinds" "_law_kinds" sKinds fk fdk) (gL : mg "_law_letters" = some (.ref fl)) (gK : mg "_law_kinds" = some (.ref fk))
    (T : BltX mg) (G : ClsG mg A) (C : ClsK K A) : FnOk P w K mg base CX0 2 f fd ["_law_error"] (spErr A allS) := by
  have nd := scAll.nd
  have GL : FnOk P w K mg base CX0 1 fl fdl ["_law_error"] (spErr A letS) := ok_letters FL T G C
  have GK : FnOk P w K mg base CX0 1 fk fdk ["_law_error"] (spErr A kinS) := ok_kinds FK T G C
  have bL : Binds K fdl ["_law_error"] [] := FL.binds fun _ _ _ _ _ _ us hl => match us, hl with | [_], _ => rfl
  have bK : Binds K fdk ["_law_error"] [] := FK.binds fun _ _ _ _ _ _ us hl => match us, hl with | [_], _ => rfl
  refine F.ok scAll (fun vs H Q E h => ?_) (fun cdv A' outer s H vs Q E hr h => ⟨_, (pss_one (ps_ret (pe_op op_add_str (pe_call GL hr rfl gL FL.kp bL .nil pass0 (pa_cons (pv 0) pa_nil)) (pe_call GK hr rfl gK FK.kp bK .nil pass0 (pa_cons (pv 0) pa_nil))))), ?_⟩)
  · obtain ⟨a, i, rfl, _⟩ := h
    rfl
  · obtain ⟨a, i, rfl, hi, he, k⟩ := h
    walk_at "rd"
    refine ⟨a, i, rfl, hi, he, ?_⟩
    walk_at "rd"
    refine ⟨a, i, rfl, hi, he, ?_⟩
    exact Rd.adds (letS_le i) (kinS_le i) (by decide) k
end
end Ow

namespace Rd
open PySem PySem.Spec PyProof.Rows L2 OwX Evl
section
variable {X : Cx} {σ : L2.St} {H : Hp} {Q : VK}
/-- a new error without __init__, as a value -/
def tExc (C : Addr) (ta : TE) : TE := fun σ H Q => ta σ H fun _ H1 => ∀ a, H1 a = none → Q (.ref a) (upd H1 a (ExO (.ref C) a))
theorem pe_excV {C : Addr} {bmB : List Value} {B newId initId : String} {x : Str} {e : Expr} {ta : TE} {p pos : Pos} (F : ExcBaseFacts B newId initId bmB) (q : PySem.W.excIn X.K C bmB newId = true) (gC : X.mg x = some (.ref C)) (kC : PySem.W.keepIn X.K (.ref C) = true) (hg : Gl X x)
    (he : PE X e ta) (hs : starEach [e] X.env = (false, eval e X.env) :: starEach [] X.env := by rfl) (hdb : (x == ("__debug__" : Str)) = false := by decide) : PE X (.Call (.Name x p) [e] [] pos) (tExc C ta) := pe_exc1 F q gC kC hg he hs hdb
theorem exc {C : Addr} {m : V} (q : ∀ a H2, Ex H H2 → H2 a = some (ExO (.ref C) a) → Q (.ref a) H2) : tExc C (tC m) σ H Q := fun a ha => q a _ (Ex.new ha) upd_same
theorem lstX {xs : List V} {Q : Addr → Hp → Prop} (h : xs.length ≤ 100000) (q : ∀ p H2, Ex H H2 → H2 p = some (.lst xs) → p ≠ sysModules → Q p H2) : xs.length ≤ sizeLine ∧ ∀ p, H p = none → p ≠ sysModules → Q p (upd H p (.lst xs)) :=
  ⟨sz_of h, fun p hp hm => q p _ (Ex.new hp) upd_same hm⟩
theorem tupX {xs : List V} {Q : Addr → Hp → Prop} (h : xs.length ≤ 100000) (q : ∀ p H2, Ex H H2 → H2 p = some (.tup xs) → Q p H2) : xs.length ≤ sizeLine ∧ ∀ p, H p = none → Q p (upd H p (.tup xs)) :=
  ⟨sz_of h, fun p hp => q p _ (Ex.new hp) upd_same⟩
theorem catX {l b : Addr} {xs zs : List V} (h1 : H l = some (.lst xs)) (h2 : H b = some (.lst zs)) (h : xs.length + zs.length ≤ 100000) (q : ∀ p H2, Ex H H2 → H2 p = some (.lst (xs ++ zs)) → p ≠ sysModules → Q (.ref p) H2) : rCatN (.ref l) (.ref b) H Q :=
  ⟨l, b, xs, zs, rfl, rfl, h1, h2, sz_of h, fun p hp hm => q p _ (Ex.new hp) upd_same hm⟩
theorem par3 {i j l : Nat} {D : Ends} {ta : TA} (q : ta σ H fun vs H1 => ∃ u v w, vs = [u, v, w] ∧ D.nx (((σ.set i (some u)).set j (some v)).set l (some w)) H1) : tPar3 i j l ta D σ H := q
theorem mkv1 {C : Addr} {f : Str} {i : Nat} {v : V} (hv : σ[i]? = some (some v)) (q : ∀ e d H2, Ex H H2 → H2 e = some (exo e C (some d)) → H2 d = some (exd d [(f, v)]) → Q (.ref e) H2) : tMkV C f (tCons (tVar i) tNil) σ H Q :=
  ⟨v, hv, v, rfl, fun e d he hd hn => q e d _ ((Ex.new hd).trans (Ex.new (by rw [upd_ne (Ne.symm hn)]; exact he))) upd_same ((upd_ne hn).trans upd_same)⟩
theorem xv {K : PySem.W.Frag} {f nm qual : Str} {i : Nat} {a d C fI : Addr} {mg : Str → Option Value} {v : V} (T : ETxt K mg nm qual C fI f) (hv : σ[i]? = some (some (.ref a))) (h1 : H a = some (exo a C (some d))) (h2 : H d = some (exd d [(f, v)])) (q : Q v H) : tXv K f (tVar i) σ H Q := by
  obtain ⟨B, B', newId, initId, bmN, bmB, FB, SF, TB, EC⟩ := T.ba
  exact ⟨.ref a, hv, a, d, C, fI, bmB, newId, v, rfl, h1, h2, EC, q⟩
end
end Rd

namespace Ow
open PySem L2 L2H OwX Rd Evl
abbrev bmVE : List Value := [.type "ValueError", .type "Exception", .type "BaseException", .type "object"]
/-- what is asked of the own classes to make their instances -/
structure ClsM (K : PySem.W.Frag) (A : Nat → Addr) : Prop where
  ex : ∀ i, i < 15 → PySem.W.excIn K (A i) bmVE "ValueError.__new__" = true
  kp : ∀ i, i < 21 → PySem.W.keepIn K (.ref (A i)) = true
theorem isErr_ex {H H' : Hp} {a D : Addr} (e : Ex H H') (h : IsErr H a D) : IsErr H' a D := by
  rcases h with h | ⟨d, fs, h1, h2⟩
  · exact Or.inl (e _ _ h)
  · exact Or.inr ⟨d, fs, e _ _ h1, e _ _ h2⟩
def Errs (H : Hp) (A : Nat → Addr) : Nat → List Addr → Prop
  | _, [] => True
  | k, a :: r => IsErr H a (A k) ∧ Errs H A (k + 1) r
theorem errs_get {H : Hp} {A : Nat → Addr} : ∀ {as : List Addr} {k i : Nat} {a : Addr}, Errs H A k as → as[i]? = some a → IsErr H a (A (k + i))
  | a :: r, k, 0, b, h, e => by
    cases (show some a = some b from e)
    exact h.1
  | a :: r, k, i + 1, b, h, e => by
    have z := errs_get h.2 (i := i) (show r[i]? = some b from e)
    have e : k + 1 + i = k + (i + 1) := by omega
    rw [e] at z
    exact z
abbrev sMade : Stmt := top 26
abbrev sKept : Stmt := top 30
theorem scMade : FnScope ["_law_found"] [] (defScope sMade) := ⟨rfl, rfl, rfl, by decide +kernel, rfl, by decide +kernel, by decide +kernel⟩
theorem scKept : FnScope ["_law_worth", "_law_index", "_law_parse", "_law_unknown", "_law_wrong", "_law_undo", "_law_much", "_law_refused", "_law_found"] ["_law_worth", "_law_index"] (defScope sKept) := ⟨rfl, rfl, rfl, by decide +kernel, rfl, by decide +kernel, by decide +kernel⟩
def spMade (A : Nat → Addr) : Sp := fun vs H Q _ => vs = [] ∧ ∀ H' p (as : List Addr), Ex H H' → H' p = some (.lst (as.map V.ref)) → as.length = 14 → Errs H' A 1 as → Q (.ref p) H'
def spKept : Sp := fun vs H Q _ => ∃ w x : V, vs = [w, x] ∧ ∀ H' p (t1 t2 t3 t4 t5 t6 : Addr), Ex H H' → H' p = some (.lst [.ref t1, .ref t2, .ref t3, .ref t4, .ref t5, .ref t6]) → p ≠ sysModules → H' t1 = some (.tup [.str (allS 15), x]) → H' t2 = some (.tup [.str (allS 16), w]) → H' t3 = some (.tup [.str (allS 17), w]) →
  H' t4 = some (.tup [.str (allS 18), w]) → H' t5 = some (.tup [.str (allS 19), w]) → H' t6 = some (.tup [.str (allS 20), w]) → Q (.ref p) H'
section
variable {P : Program} {w : World} {K : PySem.W.Frag} {mg : Str → Option Value} {base : Heap} {A : Nat → Addr}
theorem ok_made {f : Addr} {fd : FuncData} (F : Fun K "_law_made_all" "_law_made_all" sMade f fd) (G : ClsG mg A) (C : ClsM K A) : FnOk P w K mg base CX0 1 f fd [] (spMade A) := by
  have nd := scMade.nd
  refine F.ok scMade (fun vs H Q E h => ?_) (fun cdv A' outer s H vs Q E hr h => ⟨_, (pss_cons (ps_set (i := 0) nd rfl (Or.inl rfl) (pe_lstN (pa_cons (pe_excV (C := A 1) PySem.F.excBase_ValueError (C.ex 1 (by decide)) G.g1 (C.kp 1 (by decide)) (by rfl) pe_str) (pa_cons (pe_excV (C := A 2) PySem.F.excBase_ValueError (C.ex 2 (by decide)) G.g2 (C.kp 2 (by decide)) (by rfl) pe_str) (pa_cons (pe_excV (C := A 3) PySem.F.excBase_ValueError (C.ex 3 (by decide)) G.g3 (C.kp 3 (by decide)) (by rfl) pe_str) (pa_cons (pe_excV (C := A 4) PySem.F.excBase_ValueError (C.ex 4 (by decide)) G.g4 (C.kp 4 (by decide)) (by rfl) pe_str) (pa_cons (pe_excV (C := A 5) PySem.F.excBase_ValueError (C.ex 5 (by decide)) G.g5 (C.kp 5 (by decide)) (by rfl) pe_str) pa_nil)))))))
    (pss_cons (ps_set (i := 0) nd rfl (Or.inl rfl) (pe_op op_catN (pv 0) (pe_lstN (pa_cons (pe_excV (C := A 6) PySem.F.excBase_ValueError (C.ex 6 (by decide)) G.g6 (C.kp 6 (by decide)) (by rfl) pe_str) (pa_cons (pe_excV (C := A 7) PySem.F.excBase_ValueError (C.ex 7 (by decide)) G.g7 (C.kp 7 (by decide)) (by rfl) pe_str) (pa_cons (pe_excV (C := A 8) PySem.F.excBase_ValueError (C.ex 8 (by decide)) G.g8 (C.kp 8 (by decide)) (by rfl) pe_str) (pa_cons (pe_excV (C := A 9) PySem.F.excBase_ValueError (C.ex 9 (by decide)) G.g9 (C.kp 9 (by decide)) (by rfl) pe_str) (pa_cons (pe_excV (C := A 10) PySem.F.excBase_ValueError (C.ex 10 (by decide)) G.g10 (C.kp 10 (by decide)) (by rfl) pe_str) pa_nil))))))))
    (pss_one (ps_ret (pe_op op_catN (pv 0) (pe_lstN (pa_cons (pe_excV (C := A 11) PySem.F.excBase_ValueError (C.ex 11 (by decide)) G.g11 (C.kp 11 (by decide)) (by rfl) pe_str) (pa_cons (pe_excV (C := A 12) PySem.F.excBase_ValueError (C.ex 12 (by decide)) G.g12 (C.kp 12 (by decide)) (by rfl) pe_str) (pa_cons (pe_excV (C := A 13) PySem.F.excBase_ValueError (C.ex 13 (by decide)) G.g13 (C.kp 13 (by decide)) (by rfl) pe_str) (pa_cons (pe_excV (C := A 14) PySem.F.excBase_ValueError (C.ex 14 (by decide)) G.g14 (C.kp 14 (by decide)) (by rfl) pe_str) pa_nil)))))))))), ?_⟩)
  · obtain ⟨rfl, _⟩ := h
    rfl
  · obtain ⟨rfl, k⟩ := h
    walk_at "rd"
    refine Rd.exc (fun a1 H1 e1 h1 => ?_)
    walk_at "rd"
    refine Rd.exc (fun a2 H2 e2 h2 => ?_)
    walk_at "rd"
    refine Rd.exc (fun a3 H3 e3 h3 => ?_)
    walk_at "rd"
    refine Rd.exc (fun a4 H4 e4 h4 => ?_)
    walk_at "rd"
    refine Rd.exc (fun a5 H5 e5 h5 => ?_)
    walk_at "rd"
    refine ⟨Evl.sz_of (by simp), fun l0 nl0 m0 => ?_⟩
    have e6 := Evl.Ex.new (o := HO.lst [V.ref a1, V.ref a2, V.ref a3, V.ref a4, V.ref a5]) nl0
    have q0 := upd_same (H := H5) (a := l0) (o := HO.lst [V.ref a1, V.ref a2, V.ref a3, V.ref a4, V.ref a5])
    generalize upd H5 l0 (HO.lst [V.ref a1, V.ref a2, V.ref a3, V.ref a4, V.ref a5]) = H6 at e6 q0 ⊢
    walk_at "rd"
    refine Rd.exc (fun a6 H7 e7 h6 => ?_)
    walk_at "rd"
    refine Rd.exc (fun a7 H8 e8 h7 => ?_)
    walk_at "rd"
    refine Rd.exc (fun a8 H9 e9 h8 => ?_)
    walk_at "rd"
    refine Rd.exc (fun a9 H10 e10 h9 => ?_)
    walk_at "rd"
    refine Rd.exc (fun a10 H11 e11 h10 => ?_)
    walk_at "rd"
    refine ⟨Evl.sz_of (by simp), fun l1 nl1 m1 => ?_⟩
    have e12 := Evl.Ex.new (o := HO.lst [V.ref a6, V.ref a7, V.ref a8, V.ref a9, V.ref a10]) nl1
    have q1 := upd_same (H := H11) (a := l1) (o := HO.lst [V.ref a6, V.ref a7, V.ref a8, V.ref a9, V.ref a10])
    generalize upd H11 l1 (HO.lst [V.ref a6, V.ref a7, V.ref a8, V.ref a9, V.ref a10]) = H12 at e12 q1 ⊢
    walk_at "rd"
    refine Rd.catX (e12 _ _ (e11 _ _ (e10 _ _ (e9 _ _ (e8 _ _ (e7 _ _ q0)))))) q1 (by simp) (fun p1 H13 e13 r1 s1 => ?_)
    walk_at "rd"
    refine Rd.exc (fun a11 H14 e14 h11 => ?_)
    walk_at "rd"
    refine Rd.exc (fun a12 H15 e15 h12 => ?_)
    walk_at "rd"
    refine Rd.exc (fun a13 H16 e16 h13 => ?_)
    walk_at "rd"
    refine Rd.exc (fun a14 H17 e17 h14 => ?_)
    walk_at "rd"
    refine ⟨Evl.sz_of (by simp), fun l2 nl2 m2 => ?_⟩
    have e18 := Evl.Ex.new (o := HO.lst [V.ref a11, V.ref a12, V.ref a13, V.ref a14]) nl2
    have q2 := upd_same (H := H17) (a := l2) (o := HO.lst [V.ref a11, V.ref a12, V.ref a13, V.ref a14])
    generalize upd H17 l2 (HO.lst [V.ref a11, V.ref a12, V.ref a13, V.ref a14]) = H18 at e18 q2 ⊢
    walk_at "rd"
    refine Rd.catX (e18 _ _ (e17 _ _ (e16 _ _ (e15 _ _ (e14 _ _ r1))))) q2 (by simp) (fun p2 H19 e19 r2 s2 => ?_)
    exact k H19 p2 [a1, a2, a3, a4, a5, a6, a7, a8, a9, a10, a11, a12, a13, a14] ((((((((((((((((((((Evl.Ex.refl _).trans e1).trans e2).trans e3).trans e4).trans e5).trans e6).trans e7).trans e8).trans e9).trans e10).trans e11).trans e12).trans e13).trans e14).trans e15).trans e16).trans e17).trans e18).trans e19) r2 rfl ⟨Or.inl (e19 _ _ (e18 _ _ (e17 _ _ (e16 _ _ (e15 _ _ (e14 _ _ (e13 _ _ (e12 _ _ (e11 _ _ (e10 _ _ (e9 _ _ (e8 _ _ (e7 _ _ (e6 _ _ (e5 _ _ (e4 _ _ (e3 _ _ (e2 _ _ h1)))))))))))))))))), Or.inl (e19 _ _ (e18 _ _ (e17 _ _ (e16 _ _ (e15 _ _ (e14 _ _ (e13 _ _ (e12 _ _ (e11 _ _ (e10 _ _ (e9 _ _ (e8 _ _ (e7 _ _ (e6 _ _ (e5 _ _ (e4 _ _ (e3 _ _ h2))))))))))))))))), Or.inl (e19 _ _ (e18 _ _ (e17 _ _ (e16 _ _ (e15 _ _ (e14 _ _ (e13 _ _ (e12 _ _ (e11 _ _ (e10 _ _ (e9 _ _ (e8 _ _ (e7 _ _ (e6 _ _ (e5 _ _ (e4 _ _ h3)))))))))))))))), Or.inl (e19 _ _ (e18 _ _ (e17 _ _ (e16 _ _ (e15 _ _ (e14 _ _ (e13 _ _ (e12 _ _ (e11 _ _ (e10 _ _ (e9 _ _ (e8 _ _ (e7 _ _ (e6 _ _ (e5 _ _ h4))))))))))))))), Or.inl (e19 _ _ (e18 _ _ (e17 _ _ (e16 _ _ (e15 _ _ (e14 _ _ (e13 _ _ (e12 _ _ (e11 _ _ (e10 _ _ (e9 _ _ (e8 _ _ (e7 _ _ (e6 _ _ h5)))))))))))))), Or.inl (e19 _ _ (e18 _ _ (e17 _ _ (e16 _ _ (e15 _ _ (e14 _ _ (e13 _ _ (e12 _ _ (e11 _ _ (e10 _ _ (e9 _ _ (e8 _ _ h6)))))))))))), Or.inl (e19 _ _ (e18 _ _ (e17 _ _ (e16 _ _ (e15 _ _ (e14 _ _ (e13 _ _ (e12 _ _ (e11 _ _ (e10 _ _ (e9 _ _ h7))))))))))), Or.inl (e19 _ _ (e18 _ _ (e17 _ _ (e16 _ _ (e15 _ _ (e14 _ _ (e13 _ _ (e12 _ _ (e11 _ _ (e10 _ _ h8)))))))))), Or.inl (e19 _ _ (e18 _ _ (e17 _ _ (e16 _ _ (e15 _ _ (e14 _ _ (e13 _ _ (e12 _ _ (e11 _ _ h9))))))))), Or.inl (e19 _ _ (e18 _ _ (e17 _ _ (e16 _ _ (e15 _ _ (e14 _ _ (e13 _ _ (e12 _ _ h10)))))))), Or.inl (e19 _ _ (e18 _ _ (e17 _ _ (e16 _ _ (e15 _ _ h11))))), Or.inl (e19 _ _ (e18 _ _ (e17 _ _ (e16 _ _ h12)))), Or.inl (e19 _ _ (e18 _ _ (e17 _ _ h13))), Or.inl (e19 _ _ (e18 _ _ h14)), trivial⟩
theorem ok_kept {f fA i15 i16 i17 i18 i19 i20 : Addr} {fd fdA : FuncData} {n15 n16 n17 n18 n19 n20 : Str} (F : Fun K "_law_kept" "_law_kept" sKept f fd) (FA : Fun K "_law_all" "_law_all" sAll fA fdA) (gA : mg "_law_all" = some (.ref fA)) (GA : FnOk P w K mg base CX0 2 fA fdA ["_law_error"] (spErr A allS))
    (T15 : ETxt K mg "ParseError" n15 (A 15) i15 "number") (T16 : ETxt K mg "UnknownName" n16 (A 16) i16 "word") (T17 : ETxt K mg "InvalidNumber" n17 (A 17) i17 "value") (T18 : ETxt K mg "NothingToUndo" n18 (A 18) i18 "many") (T19 : ETxt K mg "TooMany" n19 (A 19) i19 "limit")
    (T20 : ETxt K mg "Refused" n20 (A 20) i20 "pledge") : FnOk P w K mg base CX0 3 f fd ["_law_worth", "_law_index"] spKept := by
  have nd := scKept.nd
  have bA : Binds K fdA ["_law_error"] [] := FA.binds fun _ _ _ _ _ _ us hl => match us, hl with | [_], _ => rfl
  refine F.ok scKept (fun vs H Q E h => ?_) (fun cdv A' outer s H vs Q E hr h => ⟨_, (pss_cons (ps_par3 (i := 2) (j := 3) (l := 4) rfl nd rfl rfl rfl (by decide) (by decide) (by decide) rfl rfl rfl (pa_cons (pe_mkV (C := A 15) T15 hr (hg := by rfl) (ha := (pa_cons (pv 1) pa_nil))) (pa_cons (pe_mkV (C := A 16) T16 hr (hg := by rfl) (ha := (pa_cons (pv 0) pa_nil))) (pa_cons (pe_mkV (C := A 17) T17 hr (hg := by rfl) (ha := (pa_cons (pv 0) pa_nil))) pa_nil))) rfl)
    (pss_cons (ps_par3 (i := 5) (j := 6) (l := 7) rfl nd rfl rfl rfl (by decide) (by decide) (by decide) rfl rfl rfl (pa_cons (pe_mkV (C := A 18) T18 hr (hg := by rfl) (ha := (pa_cons (pv 0) pa_nil))) (pa_cons (pe_mkV (C := A 19) T19 hr (hg := by rfl) (ha := (pa_cons (pv 0) pa_nil))) (pa_cons (pe_mkV (C := A 20) T20 hr (hg := by rfl) (ha := (pa_cons (pv 0) pa_nil))) pa_nil))) rfl)
    (pss_cons (ps_set (i := 8) nd rfl (Or.inl rfl) (pe_lstN (pa_cons (pe_tup (pa_cons (pe_call GA hr rfl gA FA.kp bA .nil pass0 (pa_cons (pv 2) pa_nil)) (pa_cons (pe_xv (pv 2)) pa_nil))) (pa_cons (pe_tup (pa_cons (pe_call GA hr rfl gA FA.kp bA .nil pass0 (pa_cons (pv 3) pa_nil)) (pa_cons (pe_xv (pv 3)) pa_nil))) (pa_cons (pe_tup (pa_cons (pe_call GA hr rfl gA FA.kp bA .nil pass0 (pa_cons (pv 4) pa_nil)) (pa_cons (pe_xv (pv 4)) pa_nil))) pa_nil)))))
    (pss_cons (ps_set (i := 8) nd rfl (Or.inl rfl) (pe_op op_catN (pv 8) (pe_lstN (pa_cons (pe_tup (pa_cons (pe_call GA hr rfl gA FA.kp bA .nil pass0 (pa_cons (pv 5) pa_nil)) (pa_cons (pe_xv (pv 5)) pa_nil))) (pa_cons (pe_tup (pa_cons (pe_call GA hr rfl gA FA.kp bA .nil pass0 (pa_cons (pv 6) pa_nil)) (pa_cons (pe_xv (pv 6)) pa_nil))) pa_nil)))))
    (pss_one (ps_ret (pe_op op_catN (pv 8) (pe_lstN (pa_cons (pe_tup (pa_cons (pe_call GA hr rfl gA FA.kp bA .nil pass0 (pa_cons (pv 7) pa_nil)) (pa_cons (pe_xv (pv 7)) pa_nil))) pa_nil))))))))), ?_⟩)
  · obtain ⟨w, x, rfl, _⟩ := h
    rfl
  · obtain ⟨v, x, rfl, k⟩ := h
    walk_at "rd"
    walk_at "rd"
    refine Rd.par3 ?_
    walk_at "rd"
    refine Rd.mkv1 rfl (fun x15 d15 H1 e1 h15 g15 => ?_)
    walk_at "rd"
    refine Rd.mkv1 rfl (fun x16 d16 H2 e2 h16 g16 => ?_)
    walk_at "rd"
    refine Rd.mkv1 rfl (fun x17 d17 H3 e3 h17 g17 => ?_)
    walk_at "rd"
    refine ⟨_, _, _, rfl, ?_⟩
    walk_at "rd"
    refine Rd.par3 ?_
    walk_at "rd"
    refine Rd.mkv1 rfl (fun x18 d18 H4 e4 h18 g18 => ?_)
    walk_at "rd"
    refine Rd.mkv1 rfl (fun x19 d19 H5 e5 h19 g19 => ?_)
    walk_at "rd"
    refine Rd.mkv1 rfl (fun x20 d20 H6 e6 h20 g20 => ?_)
    walk_at "rd"
    refine ⟨_, _, _, rfl, ?_⟩
    walk_at "rd"
    refine ⟨_, 15, rfl, by decide, Or.inr ⟨_, _, (e6 _ _ (e5 _ _ (e4 _ _ (e3 _ _ (e2 _ _ h15))))), (e6 _ _ (e5 _ _ (e4 _ _ (e3 _ _ (e2 _ _ g15)))))⟩, ?_⟩
    walk_at "rd"
    refine Rd.xv T15 rfl (e6 _ _ (e5 _ _ (e4 _ _ (e3 _ _ (e2 _ _ h15))))) (e6 _ _ (e5 _ _ (e4 _ _ (e3 _ _ (e2 _ _ g15))))) ?_
    walk_at "rd"
    refine ⟨Evl.sz_of (by simp), fun t15 nt15 => ?_⟩
    have e7 := Evl.Ex.new (o := HO.tup [V.str (allS 15), x]) nt15
    have y15 := upd_same (H := H6) (a := t15) (o := HO.tup [V.str (allS 15), x])
    generalize upd H6 t15 (HO.tup [V.str (allS 15), x]) = H7 at e7 y15 ⊢
    walk_at "rd"
    refine ⟨_, 16, rfl, by decide, Or.inr ⟨_, _, (e7 _ _ (e6 _ _ (e5 _ _ (e4 _ _ (e3 _ _ h16))))), (e7 _ _ (e6 _ _ (e5 _ _ (e4 _ _ (e3 _ _ g16)))))⟩, ?_⟩
    walk_at "rd"
    refine Rd.xv T16 rfl (e7 _ _ (e6 _ _ (e5 _ _ (e4 _ _ (e3 _ _ h16))))) (e7 _ _ (e6 _ _ (e5 _ _ (e4 _ _ (e3 _ _ g16))))) ?_
    walk_at "rd"
    refine ⟨Evl.sz_of (by simp), fun t16 nt16 => ?_⟩
    have e8 := Evl.Ex.new (o := HO.tup [V.str (allS 16), v]) nt16
    have y16 := upd_same (H := H7) (a := t16) (o := HO.tup [V.str (allS 16), v])
    generalize upd H7 t16 (HO.tup [V.str (allS 16), v]) = H8 at e8 y16 ⊢
    walk_at "rd"
    refine ⟨_, 17, rfl, by decide, Or.inr ⟨_, _, (e8 _ _ (e7 _ _ (e6 _ _ (e5 _ _ (e4 _ _ h17))))), (e8 _ _ (e7 _ _ (e6 _ _ (e5 _ _ (e4 _ _ g17)))))⟩, ?_⟩
    walk_at "rd"
    refine Rd.xv T17 rfl (e8 _ _ (e7 _ _ (e6 _ _ (e5 _ _ (e4 _ _ h17))))) (e8 _ _ (e7 _ _ (e6 _ _ (e5 _ _ (e4 _ _ g17))))) ?_
    walk_at "rd"
    refine ⟨Evl.sz_of (by simp), fun t17 nt17 => ?_⟩
    have e9 := Evl.Ex.new (o := HO.tup [V.str (allS 17), v]) nt17
    have y17 := upd_same (H := H8) (a := t17) (o := HO.tup [V.str (allS 17), v])
    generalize upd H8 t17 (HO.tup [V.str (allS 17), v]) = H9 at e9 y17 ⊢
    walk_at "rd"
    refine ⟨Evl.sz_of (by simp), fun l0 nl0 m0 => ?_⟩
    have e10 := Evl.Ex.new (o := HO.lst [V.ref t15, V.ref t16, V.ref t17]) nl0
    have q0 := upd_same (H := H9) (a := l0) (o := HO.lst [V.ref t15, V.ref t16, V.ref t17])
    generalize upd H9 l0 (HO.lst [V.ref t15, V.ref t16, V.ref t17]) = H10 at e10 q0 ⊢
    walk_at "rd"
    refine ⟨_, 18, rfl, by decide, Or.inr ⟨_, _, (e10 _ _ (e9 _ _ (e8 _ _ (e7 _ _ (e6 _ _ (e5 _ _ h18)))))), (e10 _ _ (e9 _ _ (e8 _ _ (e7 _ _ (e6 _ _ (e5 _ _ g18))))))⟩, ?_⟩
    walk_at "rd"
    refine Rd.xv T18 rfl (e10 _ _ (e9 _ _ (e8 _ _ (e7 _ _ (e6 _ _ (e5 _ _ h18)))))) (e10 _ _ (e9 _ _ (e8 _ _ (e7 _ _ (e6 _ _ (e5 _ _ g18)))))) ?_
    walk_at "rd"
    refine ⟨Evl.sz_of (by simp), fun t18 nt18 => ?_⟩
    have e11 := Evl.Ex.new (o := HO.tup [V.str (allS 18), v]) nt18
    have y18 := upd_same (H := H10) (a := t18) (o := HO.tup [V.str (allS 18), v])
    generalize upd H10 t18 (HO.tup [V.str (allS 18), v]) = H11 at e11 y18 ⊢
    walk_at "rd"
    refine ⟨_, 19, rfl, by decide, Or.inr ⟨_, _, (e11 _ _ (e10 _ _ (e9 _ _ (e8 _ _ (e7 _ _ (e6 _ _ h19)))))), (e11 _ _ (e10 _ _ (e9 _ _ (e8 _ _ (e7 _ _ (e6 _ _ g19))))))⟩, ?_⟩
    walk_at "rd"
    refine Rd.xv T19 rfl (e11 _ _ (e10 _ _ (e9 _ _ (e8 _ _ (e7 _ _ (e6 _ _ h19)))))) (e11 _ _ (e10 _ _ (e9 _ _ (e8 _ _ (e7 _ _ (e6 _ _ g19)))))) ?_
    walk_at "rd"
    refine ⟨Evl.sz_of (by simp), fun t19 nt19 => ?_⟩
    have e12 := Evl.Ex.new (o := HO.tup [V.str (allS 19), v]) nt19
    have y19 := upd_same (H := H11) (a := t19) (o := HO.tup [V.str (allS 19), v])
    generalize upd H11 t19 (HO.tup [V.str (allS 19), v]) = H12 at e12 y19 ⊢
    walk_at "rd"
    refine ⟨Evl.sz_of (by simp), fun l1 nl1 m1 => ?_⟩
    have e13 := Evl.Ex.new (o := HO.lst [V.ref t18, V.ref t19]) nl1
    have q1 := upd_same (H := H12) (a := l1) (o := HO.lst [V.ref t18, V.ref t19])
    generalize upd H12 l1 (HO.lst [V.ref t18, V.ref t19]) = H13 at e13 q1 ⊢
    walk_at "rd"
    refine Rd.catX (e13 _ _ (e12 _ _ (e11 _ _ q0))) q1 (by simp) (fun p1 H14 e14 r1 s1 => ?_)
    walk_at "rd"
    refine ⟨_, 20, rfl, by decide, Or.inr ⟨_, _, (e14 _ _ (e13 _ _ (e12 _ _ (e11 _ _ (e10 _ _ (e9 _ _ (e8 _ _ (e7 _ _ h20)))))))), (e14 _ _ (e13 _ _ (e12 _ _ (e11 _ _ (e10 _ _ (e9 _ _ (e8 _ _ (e7 _ _ g20))))))))⟩, ?_⟩
    walk_at "rd"
    refine Rd.xv T20 rfl (e14 _ _ (e13 _ _ (e12 _ _ (e11 _ _ (e10 _ _ (e9 _ _ (e8 _ _ (e7 _ _ h20)))))))) (e14 _ _ (e13 _ _ (e12 _ _ (e11 _ _ (e10 _ _ (e9 _ _ (e8 _ _ (e7 _ _ g20)))))))) ?_
    walk_at "rd"
    refine ⟨Evl.sz_of (by simp), fun t20 nt20 => ?_⟩
    have e15 := Evl.Ex.new (o := HO.tup [V.str (allS 20), v]) nt20
    have y20 := upd_same (H := H14) (a := t20) (o := HO.tup [V.str (allS 20), v])
    generalize upd H14 t20 (HO.tup [V.str (allS 20), v]) = H15 at e15 y20 ⊢
    walk_at "rd"
    refine ⟨Evl.sz_of (by simp), fun l2 nl2 m2 => ?_⟩
    have e16 := Evl.Ex.new (o := HO.lst [V.ref t20]) nl2
    have q2 := upd_same (H := H15) (a := l2) (o := HO.lst [V.ref t20])
    generalize upd H15 l2 (HO.lst [V.ref t20]) = H16 at e16 q2 ⊢
    walk_at "rd"
    refine Rd.catX (e16 _ _ (e15 _ _ r1)) q2 (by simp) (fun p2 H17 e17 r2 s2 => ?_)
    exact k H17 p2 t15 t16 t17 t18 t19 t20 ((((((((((((((((((Evl.Ex.refl _).trans e1).trans e2).trans e3).trans e4).trans e5).trans e6).trans e7).trans e8).trans e9).trans e10).trans e11).trans e12).trans e13).trans e14).trans e15).trans e16).trans e17) r2 s2 (e17 _ _ (e16 _ _ (e15 _ _ (e14 _ _ (e13 _ _ (e12 _ _ (e11 _ _ (e10 _ _ (e9 _ _ (e8 _ _ y15)))))))))) (e17 _ _ (e16 _ _ (e15 _ _ (e14 _ _ (e13 _ _ (e12 _ _ (e11 _ _ (e10 _ _ (e9 _ _ y16))))))))) (e17 _ _ (e16 _ _ (e15 _ _ (e14 _ _ (e13 _ _ (e12 _ _ (e11 _ _ (e10 _ _ y17)))))))) (e17 _ _ (e16 _ _ (e15 _ _ (e14 _ _ (e13 _ _ (e12 _ _ y18)))))) (e17 _ _ (e16 _ _ (e15 _ _ (e14 _ _ (e13 _ _ y19))))) (e17 _ _ (e16 _ _ y20))
end
end Ow

namespace Ow
open PySem L2 L2H OwX Rd Evl
abbrev sCaught : Stmt := top 31
theorem scCaught : FnScope ["_law_worth", "_law_way", "e"] ["_law_worth", "_law_way"] (defScope sCaught) := ⟨rfl, rfl, rfl, by decide +kernel, rfl, by decide +kernel, by decide +kernel⟩
/-- what the handling of errors asks of the own classes -/
structure ClsH (K : PySem.W.Frag) (A : Nat → Addr) : Prop where
  exm : ∀ i j, i < 21 → j < 21 → PySem.W.exmOne K (.ref (A i)) (.ref (A j)) = some (subOwn i j)
  ty : ∀ i, i < 21 → PySem.W.typeIn K (.ref (A i)) = some (.type "type")
/-- data whose text is short -/
structure Sm (d : PyData) : Prop where
  sh : d.showable = true
  dp : d.depth ≤ 8
  ln : d.shown.length ≤ 10000
mutual
theorem dq_ex {K : PySem.W.Frag} {H H' : Hp} (e : Ex H H') : ∀ {v : V} {d : PyData}, Dq K H v d → Dq K H' v d
  | _, _, .non => .non
  | _, _, .bl b => .bl b
  | _, _, .int i => .int i
  | _, _, .str x => .str x
  | _, _, .lst h n r => .lst (ex_l e h) n (dqs_ex e r)
  | _, _, .tup h r => .tup (ex_t e h) (dqs_ex e r)
  | _, _, .dic h r1 r2 => .dic (e _ _ h) (dqs_ex e r1) (dqs_ex e r2)
theorem dqs_ex {K : PySem.W.Frag} {H H' : Hp} (e : Ex H H') : ∀ {vs : List V} {ds : List PyData}, DqAll K H vs ds → DqAll K H' vs ds
  | _, _, .nil => .nil
  | _, _, .cons h r => .cons (dq_ex e h) (dqs_ex e r)
end
def caughtS (d : PyData) (t : Int) : Str := if t = 0 then "base j" else if t = 1 then "refused " ++ d.shown else "many " ++ d.shown
def spCaught (K : PySem.W.Frag) : Sp := fun vs H Q _ => ∃ (v : V) (t : Int) (d : PyData), vs = [v, .int t] ∧ 0 ≤ t ∧ t < 3 ∧ Dq K H v d ∧ Sm d ∧ ∀ H', Ex H H' → Q (.str (caughtS d t)) H'
/-- letters(e) of the handled error -/
def spLetH (A : Nat → Addr) (a : Addr) (cls : Value) (d : Option Addr) : Sp := fun vs H Q _ => ∃ (i : Nat), vs = [.ref a] ∧ i < 21 ∧ cls = .ref (A i) ∧ d = none ∧ Q (.str (letS i)) H
def tLetH (A : Nat → Addr) (a : Addr) (cls : Value) (d : Option Addr) : TE := tCallS (spLetH A a cls d) (fun _ _ _ _ => False) (tCons (tVar 2) tNil)
def tBase (A : Nat → Addr) (a : Addr) (cls : Value) (d : Option Addr) : TS := tRet (tOp (fun x y H Q => ∃ i j, x = .str i ∧ y = .str j ∧ i.length + j.length ≤ sizeLine ∧ Q (.str (i ++ j)) H) (tC (.str "base ")) (tLetH A a cls d))
def tTold (K : PySem.W.Frag) (C : Addr) (m f : Str) (a : Addr) (cls : Value) (d : Option Addr) : TS := tRet (tOp (fun x y H Q => ∃ i j, x = .str i ∧ y = .str j ∧ i.length + j.length ≤ sizeLine ∧ Q (.str (i ++ j)) H) (tC (.str m)) (tCB (rRepr K) (tCons (tXf a cls d C f (tVar 2)) tNil)))
section
variable {P : Program} {w : World} {K : PySem.W.Frag} {mg : Str → Option Value} {base : Heap} {A : Nat → Addr}
theorem unitsH {k : Nat} {A : Around} (r : RoomH k A) : A.units + 40 < cLine := by
  have := r.un
  omega
theorem xfC_of {nm qual : Str} {C fI : Addr} {f : Str} (T : ETxt K mg nm qual C fI f) : XfC K C ∧ PySem.W.findIn K (.ref C) f = some none := by
  obtain ⟨B, B', newId, initId, bmN, bmB, FB, SF, TB, EC⟩ := T.ba
  exact ⟨⟨EC.ga, EC.gg, EC.exC, EC.hd⟩, EC.noN⟩
theorem raisesE {X : Cx} {D : Addr} (C : ErrC X.K D) (h : PySem.W.typeIn X.K (.ref D) = some (.type "type")) : Raises X (.ref D) := raises_own C.exC h
theorem pe_letH {X : Cx} {a : Addr} {oe : Obj} {cls : Value} {d : Option Addr} {pn : List (Addr × Obj)} {p p2 pos : Pos} {x : Str}
    (h : PE (X.suite a ((a, oe) :: pn)) (.Call (.Name x p) [.Name "e" p2] [] pos) (tCallS (spErrP A letS (a, oe)) (fun _ _ _ _ => False) (tCons (tVar 2) tNil))) (hz : Zc cls d oe) (hf : ∃ vs, oe.data = .fields vs) :
    PE (X.suite a ((a, oe) :: pn)) (.Call (.Name x p) [.Name "e" p2] [] pos) (tLetH A a cls d) := by
  refine ⟨fun pins s σ H Q I hq => h.run pins s σ H Q I ?_⟩
  obtain ⟨v, hv, i, e1, hi, e2, e3, q⟩ := hq
  exact ⟨v, hv, i, e1, hi, ⟨hz.1.trans e2, hz.2.trans e3, hf⟩, q⟩
theorem ok_caught {f fL i20 i19 : Addr} {fd fdL : FuncData} {n19 n20 : Str} (F : Fun K "_law_caught" "_law_caught" sCaught f fd) (FL : Fun K "_law_letters" "_law_letters" sLetters fL fdL) (gL : mg "_law_letters" = some (.ref fL)) (T : BltX mg) (tR : mg "repr" = none) (G : ClsG mg A) (C : ClsK K A) (M : ClsM K A) (CH : ClsH K A)
    (T19 : ETxt K mg "TooMany" n19 (A 19) i19 "limit") (T20 : ETxt K mg "Refused" n20 (A 20) i20 "pledge") : GFn P w K mg base (L2.CX P w) 3 f fd ["_law_worth", "_law_way"] (spCaught K) := by
  have nd := scCaught.nd
  have GL : PFn P w K mg base (L2.CX P w) 1 fL fdL ["_law_error"] (spErrP A letS) := okP_letters FL T G C
  have bL : Binds K fdL ["_law_error"] [] := FL.binds fun _ _ _ _ _ _ us hl => match us, hl with | [_], _ => rfl
  obtain ⟨X19, z19⟩ := xfC_of T19
  obtain ⟨X20, z20⟩ := xfC_of T20
  refine gfn_of F scCaught (fun vs H Q E h => ?_) (fun cdv A' outer s H vs Q E hr hg h => ⟨_, pss_one (ps_try_mix (l := [(.ref (A 0), some 2, tBase A), (.ref (A 20), some 2, tTold K (A 20) "refused " "pledge"), (.ref (A 19), some 2, tTold K (A 19) "many " "limit")]) rfl rfl takes_none5
    (fun W pn xe tk ps => pss_cons (ps_if (pt_cmpR op_eq (pv 1) pe_int (nomark _)) (pss_one (ps_raise rfl tk (SkE.pmk_own1 PySem.F.excBase_ValueError (M.ex 10 (by decide)) G.g10 (M.kp 10 (by decide)) (raisesE (C.er 10 (by decide)) (CH.ty 10 (by decide))) (by rfl) pe_str))) pss_nil)
      (pss_cons (ps_if (pt_cmpR op_eq (pv 1) pe_int (nomark _)) (pss_one (ps_raise rfl tk (pmk_mkE T20 hr (pa_cons (pv 0) pa_nil) (by rfl)))) pss_nil)
      (pss_one (ps_raise rfl tk (pmk_mkE T19 hr (pa_cons (pv 0) pa_nil) (by rfl))))))
    (Clauses.named (i := 2) nd rfl rfl ⟨rfl, by decide, .inl G.g0⟩ (fun a oe cls d pn hz hf => pss_one (ps_ret (pe_op op_add_str pe_str (pe_letH (pe_callP (k := 1) (q := (a, oe)) GL ((roomH_mark hr _).mono (j := 1) (by decide)) List.mem_cons_self (by rfl) gL FL.kp bL (fun _ => never_at) (pa_cons (pv 2) pa_nil)) hz hf))))
    (Clauses.named (i := 2) nd rfl rfl ⟨rfl, by decide, .inl G.g20⟩ (fun a oe cls d pn hz hf => pss_one (ps_ret (pe_op op_add_str pe_str (pe_callB (call_reprD hg (unitsH (roomH_mark hr _))) (by rfl) tR (by decide +kernel) (pa_cons (pe_xf X20 z20 hz hf (pv 2)) pa_nil)))))
    (Clauses.named (i := 2) nd rfl rfl ⟨rfl, by decide, .inl G.g19⟩ (fun a oe cls d pn hz hf => pss_one (ps_ret (pe_op op_add_str pe_str (pe_callB (call_reprD hg (unitsH (roomH_mark hr _))) (by rfl) tR (by decide +kernel) (pa_cons (pe_xf X19 z19 hz hf (pv 2)) pa_nil)))))
    Clauses.nil)))), ?_⟩)
  · obtain ⟨v, t, d, rfl, _⟩ := h
    rfl
  · obtain ⟨v, t, d, rfl, h0, h1, hd, hm, k⟩ := h
    walk_at "rd"
    refine Rd.eq rfl ?_
    walk_at "rd"
    refine ite2 (fun c => ?_) (fun c => ?_)
    · walk_at "rd"
      have ht : t = 0 := by simpa using of_decide_eq_true c
      refine ⟨true, CH.exm 10 0 (by decide) (by decide), fun _ a ha => ?_, fun z => nomatch z⟩
      unfold tBase tLetH
      walk_at "rd"
      refine ⟨10, rfl, by decide, rfl, rfl, ?_⟩
      refine Rd.adds (Nat.le_refl _) (letS_le _) (by decide +kernel) ?_
      have z := k H (Ex.refl H)
      have e : caughtS d t = "base " ++ letS 10 := by
        unfold caughtS
        rw [if_pos ht]
        decide +kernel
      rw [e] at z
      exact z
    · walk_at "rd"
      refine Rd.eq rfl ?_
      walk_at "rd"
      have ht : t ≠ 0 := by simpa using c
      refine ite2 (fun c2 => ?_) (fun c2 => ?_)
      · have ht1 : t = 1 := by simpa using of_decide_eq_true c2
        refine ⟨v, rfl, v, rfl, fun dd hdd => ?_⟩
        refine ⟨false, CH.exm 20 0 (by decide) (by decide), (fun z => nomatch z), fun _ => ⟨true, CH.exm 20 20 (by decide) (by decide), (fun _ a ha => ?_), fun z => nomatch z⟩⟩
        unfold tTold
        walk_at "rd"
        refine ⟨.ref a, rfl, rfl, rfl, dd, [("pledge", v)], v, rfl, upd_same, rfl, ?_⟩
        walk_at "rd"
        refine ⟨v, d, rfl, dq_ex (Ex.new hdd) hd, hm.sh, Nat.le_trans hm.dp (by decide), sz_of (Nat.le_trans hm.ln (by decide)), ?_⟩
        refine Rd.adds (Nat.le_refl _) hm.ln (by decide +kernel) ?_
        have z := k _ (Ex.new hdd (o := .xd [("pledge", v)]))
        have e : caughtS d t = "refused " ++ d.shown := by
          unfold caughtS
          rw [if_neg ht, if_pos ht1]
        rw [e] at z
        exact z
      · have ht2 : t ≠ 1 := by simpa using c2
        refine ⟨v, rfl, v, rfl, fun dd hdd => ?_⟩
        refine ⟨false, CH.exm 19 0 (by decide) (by decide), (fun z => nomatch z), fun _ => ⟨false, CH.exm 19 20 (by decide) (by decide), (fun z => nomatch z), fun _ => ⟨true, CH.exm 19 19 (by decide) (by decide), (fun _ a ha => ?_), fun z => nomatch z⟩⟩⟩
        unfold tTold
        walk_at "rd"
        refine ⟨.ref a, rfl, rfl, rfl, dd, [("limit", v)], v, rfl, upd_same, rfl, ?_⟩
        walk_at "rd"
        refine ⟨v, d, rfl, dq_ex (Ex.new hdd) hd, hm.sh, Nat.le_trans hm.dp (by decide), sz_of (Nat.le_trans hm.ln (by decide)), ?_⟩
        refine Rd.adds (Nat.le_refl _) hm.ln (by decide +kernel) ?_
        have z := k _ (Ex.new hdd (o := .xd [("limit", v)]))
        have e : caughtS d t = "many " ++ d.shown := by
          unfold caughtS
          rw [if_neg ht, if_neg ht2]
        rw [e] at z
        exact z
end
end Ow

namespace Rd
open PySem PySem.Spec PyProof.Rows L2 OwX Evl
section
variable {X : Cx} {σ : L2.St} {H : Hp} {Q : VK}
/-- a comprehension that maps to texts, over any walk -/
theorem lc_map {J : It} {n : Nat} {G : Hp → Prop} {Y : Nat → Hp → V → Hp → Prop} (wk : Walk J n G Y) (f : Nat → Str) {te : TE} {j : Nat} {σ : L2.St} {H1 : Hp} {D : Addr} {Qd : Hp → Prop} (hD : H1 D = none) (hn : n ≤ 100000) (hG : ∀ H', Ex H1 H' → G H') (hw : ∀ x, wipe ((wipe σ [j]).set j (some x)) [j] = wipe σ [j])
    (hs : ∀ i x H H' R, i < n → Ex H1 H → Y i H x H' → (∀ H4, Ex H H4 → R (.str (f i)) H4) → te ((wipe σ [j]).set j (some x)) H' R) (hd : ∀ H, Ex H1 H → H D = some (.lst (((List.range n).map f).map V.str)) → Qd H) :
    ∃ W : Nat → Nat → Hp → Prop, (∃ m, W 0 m (upd H1 D (.lst []))) ∧ ∀ i m H, W i m H →
      (J.stop i H ∧ Qd H) ∨ (J.go i H ∧ ∃ Nx : Hp → Prop, (∀ H', Nx H' → ∃ m', m' < m ∧ W (i + 1) m' H') ∧ ∀ x H', J.yld i H x H' → gName j x (wipe σ [j]) H' fun σ2 H2 => wipe σ2 [j] = wipe σ [j] ∧ tYes σ2 H2 fun b H3 =>
        if b = true then te σ2 H3 fun y H4 => ∃ acc, H4 D = some (.lst acc) ∧ acc.length < sizeLine ∧ Nx (upd H4 D (.lst (acc ++ [y]))) else Nx H3) := by
  refine lc_it wk (fun i H => Ex H1 H ∧ H D = some (.lst (((List.range i).map f).map V.str))) ⟨Ex.new hD, upd_same⟩ (fun i H hi p => hG H p.1) (fun i x H H' hi p y => ⟨hw x, ?_⟩) (fun H p => hd H p.1 p.2)
  show te _ _ _
  refine hs i x H H' _ hi p.1 y fun H4 e4 => ⟨_, e4 _ _ p.2, ?_, (p.1.trans e4).mut hD, ?_⟩
  · simp only [List.length_map, List.length_range]
    exact sz_lt (by omega)
  · rw [List.range_succ, List.map_append, List.map_append]
    exact upd_same
theorem lcm {wi : TI} {g : TG} {tt : TT} {te : TE} {vs : List Nat} (q : wi σ H fun J H1 => ∀ D, H1 D = none → ∃ W : Nat → Nat → Hp → Prop, (∃ m, W 0 m (upd H1 D (.lst []))) ∧ ∀ i m H, W i m H →
  (J.stop i H ∧ Q (.ref D) H) ∨ (J.go i H ∧ ∃ Nx : Hp → Prop, (∀ H', Nx H' → ∃ m', m' < m ∧ W (i + 1) m' H') ∧ ∀ x H', J.yld i H x H' → g x (wipe σ vs) H' fun σ2 H2 => wipe σ2 vs = wipe σ vs ∧ tt σ2 H2 fun b H3 =>
    if b = true then te σ2 H3 fun y H4 => ∃ acc, H4 D = some (.lst acc) ∧ acc.length < sizeLine ∧ Nx (upd H4 D (.lst (acc ++ [y]))) else Nx H3)) : tLc wi g tt te vs σ H Q := q
theorem dp_strs {K : PySem.W.Frag} {H : Hp} {D : Addr} {ss : List Str} (h : H D = some (.lst (ss.map V.str))) : Dp K H (.ref D) (.list (ss.map PyData.str)) := by
  refine .lst (SqL.of h) ?_
  have z : ∀ ss : List Str, DpAll K H (ss.map V.str) (ss.map PyData.str) := fun ss => by
    induction ss with
    | nil => exact .nil
    | cons s r ih => exact .cons (.str s) ih
  exact z ss
theorem ilist {tl : TE} {K : PySem.W.Frag} {R : It → Hp → Prop} (q : tl σ H fun x H1 => ∃ a, x = .ref a ∧ (∃ xs, SqL K H1 a xs) ∧ R (Itl K a) H1) : iList K tl σ H R := q
theorem istr {te : TE} {R : It → Hp → Prop} (q : te σ H fun v H1 => ∃ x, v = .str x ∧ R (Its x) H1) : iStr te σ H R := q
theorem irng1 {ta : TA} {R : It → Hp → Prop} (q : ta σ H fun vs H1 => ∃ j : Int, vs = [.int j] ∧ -(2 ^ 62) ≤ j ∧ j < 2 ^ 62 ∧ R (Itr 0 j.toNat) H1) : iRng1 ta σ H R := q
end
end Rd
namespace Ow
open PySem L2 L2H OwX Rd Evl
def worths : List PyData := [.none, .bool true, .int 0, .str "7", .str "", .tuple [.int 4, .int 6], .list [.int 7], .dict [(.int 7, .int 7)], .tuple [.tuple [], .tuple [.str "a", .int 1]], .str "tie a b", .int (10 ^ 40)]
def indexes : List PyData := [.none, .int 0, .int 3, .int (10 ^ 30)]
def keptD (d dx : PyData) : PyData := .list [.tuple [.str (allS 15), dx], .tuple [.str (allS 16), d], .tuple [.str (allS 17), d], .tuple [.str (allS 18), d], .tuple [.str (allS 19), d], .tuple [.str (allS 20), d]]
def smB (d : PyData) : Bool := d.showable && (decide (d.depth ≤ 8) && decide (d.shown.length ≤ 10000))
def toldL (d : PyData) : List Str := ["base j", "refused " ++ d.shown, "many " ++ d.shown]
def dataB : Bool := worths.all fun d => smB d && (SeqAt.shaped (.list ((toldL d).map PyData.str)) && indexes.all fun dx => smB dx && smB (keptD d dx))
theorem dataB_ok : dataB = true := by decide +kernel
theorem l1 : ((List.range 14).map fun i => allS (i + 1)) = ((List.range 14).map fun i => (⟨#[(("abcdefghijklmn" : Str).cps.getD i 0)]⟩ : Str) ++ " web value") := by decide +kernel
theorem l2 : SeqAt.shaped (.list (((List.range 14).map fun i => allS (i + 1)).map PyData.str)) = true := by decide +kernel
theorem eqvAll_self : ∀ ss : List Str, PyData.eqvAll (ss.map PyData.str) (ss.map PyData.str) = true
  | [] => by simp [PyData.eqvAll]
  | s :: r => by simp [PyData.eqvAll, PyData.eqv, eqvAll_self r]
end Ow

namespace Ow
open PySem L2 L2H OwX Rd Evl
abbrev sRight : Stmt := top 32
abbrev NR : List Str := ["_law_worth", "_law_index", "_law_letters_here", "_law_due", "_law_told", "_law_way", "_law_error", "_law_letter"]
theorem scRight : FnScope NR ["_law_worth", "_law_index"] (defScope sRight) := ⟨rfl, rfl, rfl, by decide +kernel, rfl, by decide +kernel, by decide +kernel⟩
structure BltR (mg : Str → Option Value) : Prop where
  repr : mg "repr" = none
  range : mg "range" = none
theorem smB_ok {d : PyData} (h : smB d = true) : Sm d := by
  unfold smB at h
  simp only [Bool.and_eq_true, decide_eq_true_eq] at h
  exact ⟨h.1, h.2.1, h.2.2⟩
theorem data_ok {d dx : PyData} (h : d ∈ worths) (hx : dx ∈ indexes) : Sm d ∧ Sm dx ∧ Sm (keptD d dx) ∧ SeqAt.shaped (.list ((toldL d).map PyData.str)) = true := by
  have z := List.all_eq_true.mp dataB_ok d h
  simp only [Bool.and_eq_true] at z
  have y := List.all_eq_true.mp z.2.2 dx hx
  simp only [Bool.and_eq_true] at y
  exact ⟨smB_ok z.1, smB_ok y.1, smB_ok y.2, z.2.1⟩
def spRight (K : PySem.W.Frag) : Sp := fun vs H Q _ => ∃ (v x : V) (d dx : PyData), vs = [v, x] ∧ d ∈ worths ∧ dx ∈ indexes ∧ Dq K H v d ∧ Dq K H x dx ∧ ∀ H', Ex H H' → Q (.bl true) H'
section
variable {P : Program} {w : World} {K : PySem.W.Frag} {mg : Str → Option Value} {base : Heap} {A : Nat → Addr}
theorem ok_right {f fM fA fK fC : Addr} {fd fdM fdA fdK fdC : FuncData} (F : Fun K "_law_right" "_law_right" sRight f fd) (FM : Fun K "_law_made_all" "_law_made_all" sMade fM fdM) (FA : Fun K "_law_all" "_law_all" sAll fA fdA) (FK : Fun K "_law_kept" "_law_kept" sKept fK fdK)
    (FC : Fun K "_law_caught" "_law_caught" sCaught fC fdC) (gM : mg "_law_made_all" = some (.ref fM)) (gA : mg "_law_all" = some (.ref fA)) (gK : mg "_law_kept" = some (.ref fK)) (gC : mg "_law_caught" = some (.ref fC)) (GM : FnOk P w K mg base CX0 1 fM fdM [] (spMade A))
    (GA : FnOk P w K mg base CX0 2 fA fdA ["_law_error"] (spErr A allS)) (GK : FnOk P w K mg base CX0 3 fK fdK ["_law_worth", "_law_index"] spKept) (GC : GFn P w K mg base (L2.CX P w) 3 fC fdC ["_law_worth", "_law_way"] (spCaught K)) (T : BltR mg) (G : ClsG mg A) (M : ClsM K A) :
    GFn P w K mg base (L2.CX P w) 4 f fd ["_law_worth", "_law_index"] (spRight K) := by
  have nd := scRight.nd
  have bM : Binds K fdM [] [] := FM.binds fun _ _ _ _ _ _ us hl => match us, hl with | [], _ => rfl
  have bA : Binds K fdA ["_law_error"] [] := FA.binds fun _ _ _ _ _ _ us hl => match us, hl with | [_], _ => rfl
  have bK : Binds K fdK ["_law_worth", "_law_index"] [] := FK.binds fun _ _ _ _ _ _ us hl => match us, hl with | [_, _], _ => rfl
  have bC : Binds K fdC ["_law_worth", "_law_way"] [] := FC.binds fun _ _ _ _ _ _ us hl => match us, hl with | [_, _], _ => rfl
  refine gfn_of F scRight (fun vs H Q E h => ?_) (fun cdv A' outer s H vs Q E hr hg h => ⟨_, (pss_cons (ps_set (i := 2) nd rfl (Or.inl rfl) pe_str)
    (pss_cons (ps_if (pt_cmpR (op_neD hr.units) (pe_lc (own := [("_law_error", 6)]) (g := gName 6) (tt := tYes) rfl nd (pi_list (pe_call0 GM (hr.mono (by decide)) (by rfl) gM FM.kp bM .nil pass0)) (blkOk_by (own := [("_law_error", 6)]) (N := NR) (sc := defScope sRight) (by decide +kernel)) (fun _ _ _ _ _ => (pg_name (i := 6) nd rfl (Or.inl rfl))) (fun _ _ _ _ _ => pts_nil) (fun _ _ _ _ _ => (pe_call GA (hr.mono (by decide)) (by rfl) gA FA.kp bA .nil pass0 (pa_cons (pv 6) pa_nil)))) (pe_lc (own := [("_law_letter", 7)]) (g := gName 7) (tt := tYes) rfl nd (pi_str (pv 2)) (blkOk_by (own := [("_law_letter", 7)]) (N := NR) (sc := defScope sRight) (by decide +kernel)) (fun _ _ _ _ _ => (pg_name (i := 7) nd rfl (Or.inl rfl))) (fun _ _ _ _ _ => pts_nil) (fun _ _ _ _ _ => (pe_op op_add_str (pv 7) pe_str))) (nomark _)) (pss_one (ps_ret pe_bl)) pss_nil)
    (pss_cons (ps_set (i := 3) nd rfl (Or.inl rfl) (pe_lstN (pa_cons (pe_tup (pa_cons pe_str (pa_cons (pv 1) pa_nil))) (pa_cons (pe_tup (pa_cons pe_str (pa_cons (pv 0) pa_nil))) (pa_cons (pe_tup (pa_cons pe_str (pa_cons (pv 0) pa_nil))) (pa_cons (pe_tup (pa_cons pe_str (pa_cons (pv 0) pa_nil))) pa_nil))))))
    (pss_cons (ps_set (i := 3) nd rfl (Or.inl rfl) (pe_op op_catN (pv 3) (pe_lstN (pa_cons (pe_tup (pa_cons pe_str (pa_cons (pv 0) pa_nil))) (pa_cons (pe_tup (pa_cons pe_str (pa_cons (pv 0) pa_nil))) pa_nil)))))
    (pss_cons (ps_if ((pw_or (pt_cmpR op_ne (pe_callB (call_reprD hg (unitsH (roomH_of hr))) (by rfl) T.repr (by decide +kernel) (pa_cons (pe_call GK (hr.mono (by decide)) (by rfl) gK FK.kp bK .nil pass0 (pa_cons (pv 0) (pa_cons (pv 1) pa_nil))) pa_nil)) (pe_callB (call_reprD hg (unitsH (roomH_of hr))) (by rfl) T.repr (by decide +kernel) (pa_cons (pv 3) pa_nil)) (nomark _)) (pw_or1 (pt_cmpR op_ne (pe_call GA (hr.mono (by decide)) (by rfl) gA FA.kp bA .nil pass0 (pa_cons (pe_excV (C := A 0) PySem.F.excBase_ValueError (M.ex 0 (by decide)) G.g0 (M.kp 0 (by decide)) (by rfl) pe_str) pa_nil)) pe_str (nomark _))))).pt (pss_one (ps_ret pe_bl)) pss_nil)
    (pss_cons (ps_setLc (i := 4) (own := [("_law_way", 5)]) (g := gName 5) (tt := tYes) rfl nd rfl rfl (sw_true rfl rfl rfl (by decide +kernel)) (pi_range1 rfl T.range (pa_cons pe_int pa_nil)) (blkOk_by (own := [("_law_way", 5)]) (N := NR) (sc := defScope sRight) (by decide +kernel)) (fun _ _ _ _ _ => (pg_name (i := 5) nd rfl (Or.inl rfl))) (fun _ _ _ _ _ => pts_nil) (fun _ _ _ _ _ => (pe_callG GC (hr.mono (by decide)) hg (by rfl) gC FC.kp bC (fun _ => never_at) (pa_cons (pv 0) (pa_cons (pv 5) pa_nil)))))
    (pss_one (ps_ret (pe_cmpR (op_eqD hr.units) (pv 4) (pe_lstN (pa_cons pe_str (pa_cons (pe_op op_add_str pe_str (pe_callB (call_reprD hg (unitsH (roomH_of hr))) (by rfl) T.repr (by decide +kernel) (pa_cons (pv 0) pa_nil))) (pa_cons (pe_op op_add_str pe_str (pe_callB (call_reprD hg (unitsH (roomH_of hr))) (by rfl) T.repr (by decide +kernel) (pa_cons (pv 0) pa_nil))) pa_nil)))) (nomark _)))))))))), ?_⟩)
  · obtain ⟨v, x, d, dx, rfl, _⟩ := h
    rfl
  · obtain ⟨v, x, d, dx, rfl, hw, hx, dv, dvx, k⟩ := h
    obtain ⟨S1, S2, S3, S4⟩ := data_ok hw hx
    walk_at "rd"
    refine Rd.lcm (Rd.ilist ?_)
    walk_at "rd"
    refine ⟨rfl, fun H1 p as e1 h1 hlen herr => ⟨p, rfl, ⟨_, SqL.of h1⟩, fun D1 hD1 => ?_⟩⟩
    refine Rd.lc_map (walk_list (xs := as.map V.ref)) (fun i => allS (i + 1)) hD1 (by rw [List.length_map, hlen]; decide) (fun H' e => ex_l e (SqL.of h1)) (fun _ => rfl) (fun i y Ha Hb R hi ea y1 hR => ?_) (fun H2 e2 h2 => ?_)
    · obtain ⟨rfl, y2⟩ := y1
      rw [List.getElem?_map] at y2
      obtain ⟨a, ha, rfl⟩ := Option.map_eq_some_iff.mp y2
      have hi' : i < 14 := by rw [List.length_map, hlen] at hi; exact hi
      have he := errs_get herr ha
      walk_at "rd"
      have e : 1 + i = i + 1 := by omega
      rw [e] at he
      refine ⟨a, i + 1, rfl, by omega, isErr_ex ea he, ?_⟩
      exact hR _ (Ex.refl _)
    rw [List.length_map, hlen] at h2
    refine Rd.lcm (Rd.istr ?_)
    walk_at "rd"
    refine ⟨_, rfl, fun D2 hD2 => ?_⟩
    refine Rd.lc_map walk_str (fun i => (⟨#[(("abcdefghijklmn" : Str).cps.getD i 0)]⟩ : Str) ++ " web value") hD2 (by decide +kernel) (fun _ _ => trivial) (fun _ => rfl) (fun i y Ha Hb R hi ea y1 hR => ?_) (fun H3 e3 h3 => ?_)
    · obtain ⟨rfl, c, hc, rfl⟩ := y1
      walk_at "rd"
      refine Rd.adds (Nat.le_refl _) (Nat.le_refl _) (by show 1 + _ ≤ _; decide +kernel) ?_
      have ec : ("abcdefghijklmn" : Str).cps.getD i 0 = c := by
        rw [Array.getD_eq_getD_getElem?, hc]
        rfl
      have z := hR _ (Ex.refl _)
      rw [ec] at z
      exact z
    have s14 : ("abcdefghijklmn" : Str).cps.size = 14 := by decide +kernel
    rw [s14, ← l1] at h3
    refine ⟨_, _, dp_strs (e3 _ _ h2), dp_strs h3, l2, l2, ?_⟩
    have q1 : PyData.eqv (.list (((List.range 14).map fun i => allS (i + 1)).map PyData.str)) (.list (((List.range 14).map fun i => allS (i + 1)).map PyData.str)) = true := by
      simp only [PyData.eqv]
      exact eqvAll_self _
    rw [q1]
    refine Rd.bl (ite2 (fun c => absurd c (by decide)) (fun _ => ?_))
    walk_at "rd"
    have n0 : (Str.ofString "P web value") = allS 15 := by decide +kernel
    have n1 : (Str.ofString "U key lookup") = allS 16 := by decide +kernel
    have n2 : (Str.ofString "N index lookup") = allS 17 := by decide +kernel
    have n3 : (Str.ofString "Z runtime") = allS 18 := by decide +kernel
    have n4 : (Str.ofString "M overflow arithmetic") = allS 19 := by decide +kernel
    have n5 : (Str.ofString "R arithmetic") = allS 20 := by decide +kernel
    refine ⟨Evl.sz_of (by simp), fun t0 nt0 => ?_⟩
    have e4 := Evl.Ex.new (o := HO.tup [V.str (Str.ofString "P web value"), x]) nt0
    have y0 := upd_same (H := H3) (a := t0) (o := HO.tup [V.str (Str.ofString "P web value"), x])
    generalize upd H3 t0 (HO.tup [V.str (Str.ofString "P web value"), x]) = H4 at e4 y0 ⊢
    walk_at "rd"
    refine ⟨Evl.sz_of (by simp), fun t1 nt1 => ?_⟩
    have e5 := Evl.Ex.new (o := HO.tup [V.str (Str.ofString "U key lookup"), v]) nt1
    have y1 := upd_same (H := H4) (a := t1) (o := HO.tup [V.str (Str.ofString "U key lookup"), v])
    generalize upd H4 t1 (HO.tup [V.str (Str.ofString "U key lookup"), v]) = H5 at e5 y1 ⊢
    walk_at "rd"
    refine ⟨Evl.sz_of (by simp), fun t2 nt2 => ?_⟩
    have e6 := Evl.Ex.new (o := HO.tup [V.str (Str.ofString "N index lookup"), v]) nt2
    have y2 := upd_same (H := H5) (a := t2) (o := HO.tup [V.str (Str.ofString "N index lookup"), v])
    generalize upd H5 t2 (HO.tup [V.str (Str.ofString "N index lookup"), v]) = H6 at e6 y2 ⊢
    walk_at "rd"
    refine ⟨Evl.sz_of (by simp), fun t3 nt3 => ?_⟩
    have e7 := Evl.Ex.new (o := HO.tup [V.str (Str.ofString "Z runtime"), v]) nt3
    have y3 := upd_same (H := H6) (a := t3) (o := HO.tup [V.str (Str.ofString "Z runtime"), v])
    generalize upd H6 t3 (HO.tup [V.str (Str.ofString "Z runtime"), v]) = H7 at e7 y3 ⊢
    walk_at "rd"
    refine ⟨Evl.sz_of (by simp), fun l0 nl0 m0 => ?_⟩
    have e8 := Evl.Ex.new (o := HO.lst [V.ref t0, V.ref t1, V.ref t2, V.ref t3]) nl0
    have q0 := upd_same (H := H7) (a := l0) (o := HO.lst [V.ref t0, V.ref t1, V.ref t2, V.ref t3])
    generalize upd H7 l0 (HO.lst [V.ref t0, V.ref t1, V.ref t2, V.ref t3]) = H8 at e8 q0 ⊢
    walk_at "rd"
    refine ⟨Evl.sz_of (by simp), fun t4 nt4 => ?_⟩
    have e9 := Evl.Ex.new (o := HO.tup [V.str (Str.ofString "M overflow arithmetic"), v]) nt4
    have y4 := upd_same (H := H8) (a := t4) (o := HO.tup [V.str (Str.ofString "M overflow arithmetic"), v])
    generalize upd H8 t4 (HO.tup [V.str (Str.ofString "M overflow arithmetic"), v]) = H9 at e9 y4 ⊢
    walk_at "rd"
    refine ⟨Evl.sz_of (by simp), fun t5 nt5 => ?_⟩
    have e10 := Evl.Ex.new (o := HO.tup [V.str (Str.ofString "R arithmetic"), v]) nt5
    have y5 := upd_same (H := H9) (a := t5) (o := HO.tup [V.str (Str.ofString "R arithmetic"), v])
    generalize upd H9 t5 (HO.tup [V.str (Str.ofString "R arithmetic"), v]) = H10 at e10 y5 ⊢
    walk_at "rd"
    refine ⟨Evl.sz_of (by simp), fun l1 nl1 m1 => ?_⟩
    have e11 := Evl.Ex.new (o := HO.lst [V.ref t4, V.ref t5]) nl1
    have q1 := upd_same (H := H10) (a := l1) (o := HO.lst [V.ref t4, V.ref t5])
    generalize upd H10 l1 (HO.lst [V.ref t4, V.ref t5]) = H11 at e11 q1 ⊢
    walk_at "rd"
    refine Rd.catX (e11 _ _ (e10 _ _ (e9 _ _ q0))) q1 (by simp) (fun pd H12 e12 hdue mdue => ?_)
    walk_at "rd"
    have z0 := (e12 _ _ (e11 _ _ (e10 _ _ (e9 _ _ (e8 _ _ (e7 _ _ (e6 _ _ (e5 _ _ y0))))))))
    rw [n0] at z0
    have z1 := (e12 _ _ (e11 _ _ (e10 _ _ (e9 _ _ (e8 _ _ (e7 _ _ (e6 _ _ y1)))))))
    rw [n1] at z1
    have z2 := (e12 _ _ (e11 _ _ (e10 _ _ (e9 _ _ (e8 _ _ (e7 _ _ y2))))))
    rw [n2] at z2
    have z3 := (e12 _ _ (e11 _ _ (e10 _ _ (e9 _ _ (e8 _ _ y3)))))
    rw [n3] at z3
    have z4 := (e12 _ _ (e11 _ _ (e10 _ _ y4)))
    rw [n4] at z4
    have z5 := (e12 _ _ (e11 _ _ y5))
    rw [n5] at z5
    refine ⟨v, x, rfl, fun H13 pk k0 k1 k2 k3 k4 k5 e13 hk hkm w0 w1 w2 w3 w4 w5 => ?_⟩
    have eA : Ex H H13 := ((((((((((((e1.trans e2).trans e3).trans e4).trans e5).trans e6).trans e7).trans e8).trans e9).trans e10).trans e11).trans e12).trans e13)
    have dv13 := dq_ex eA dv
    have dx13 := dq_ex eA dvx
    walk_at "rd"
    have dK : Dq K H13 (.ref pk) (keptD d dx) := .lst (SqL.of hk) hkm (.cons (.tup (SqT.of w0) (.cons (.str _) (.cons dx13 .nil))) (.cons (.tup (SqT.of w1) (.cons (.str _) (.cons dv13 .nil))) (.cons (.tup (SqT.of w2) (.cons (.str _) (.cons dv13 .nil))) (.cons (.tup (SqT.of w3) (.cons (.str _) (.cons dv13 .nil))) (.cons (.tup (SqT.of w4) (.cons (.str _) (.cons dv13 .nil))) (.cons (.tup (SqT.of w5) (.cons (.str _) (.cons dv13 .nil))) .nil))))))
    have dD : Dq K H13 (.ref pd) (keptD d dx) := .lst (SqL.of (e13 _ _ hdue)) mdue (.cons (.tup (SqT.of (e13 _ _ z0)) (.cons (.str _) (.cons dx13 .nil))) (.cons (.tup (SqT.of (e13 _ _ z1)) (.cons (.str _) (.cons dv13 .nil))) (.cons (.tup (SqT.of (e13 _ _ z2)) (.cons (.str _) (.cons dv13 .nil))) (.cons (.tup (SqT.of (e13 _ _ z3)) (.cons (.str _) (.cons dv13 .nil))) (.cons (.tup (SqT.of (e13 _ _ z4)) (.cons (.str _) (.cons dv13 .nil))) (.cons (.tup (SqT.of (e13 _ _ z5)) (.cons (.str _) (.cons dv13 .nil))) .nil))))))
    refine ⟨_, _, rfl, dK, S3.sh, Nat.le_trans S3.dp (by decide), sz_of (Nat.le_trans S3.ln (by decide)), ?_⟩
    walk_at "rd"
    refine ⟨_, _, rfl, dD, S3.sh, Nat.le_trans S3.dp (by decide), sz_of (Nat.le_trans S3.ln (by decide)), ?_⟩
    refine Rd.ne rfl ?_
    refine Rd.bl (ite2 (fun c => absurd c (by simp)) (fun _ => ?_))
    walk_at "rd"
    refine Rd.exc (fun ew H14 e14 hew => ?_)
    walk_at "rd"
    refine ⟨ew, 0, rfl, by decide, Or.inl hew, ?_⟩
    walk_at "rd"
    refine Rd.ne rfl ?_
    have a0 : allS 0 = " web value" := by decide +kernel
    rw [a0]
    refine Rd.bl (ite2 (fun c => absurd c (by simp)) (fun _ => ?_))
    walk_at "rd"
    refine Rd.lcm (Rd.irng1 ?_)
    walk_at "rd"
    refine ⟨3, rfl, by decide, by decide, fun D3 hD3 => ?_⟩
    have eB : Ex H H14 := eA.trans e14
    refine Rd.lc_map walk_range (fun i => caughtS d (0 + (i : Int))) hD3 (by decide) (fun _ _ => trivial) (fun _ => rfl) (fun i y Ha Hb R hi ea y1 hR => ?_) (fun H15 e15 h15 => ?_)
    · obtain ⟨rfl, rfl⟩ := y1
      walk_at "rd"
      have hi' : i < 3 := hi
      exact ⟨v, _, d, rfl, by omega, by omega, dq_ex (eB.trans ea) dv, S1, fun H' e => hR H' e⟩
    walk_at "rd"
    have eC : Ex H H15 := eB.trans e15
    have rt : ∀ (R : V → Hp → Prop), R (.str d.shown) H15 → rRepr K [v] H15 R := fun R q => ⟨v, d, rfl, dq_ex eC dv, S1.sh, Nat.le_trans S1.dp (by decide), sz_of (Nat.le_trans S1.ln (by decide)), q⟩
    refine rt _ ?_
    refine Rd.adds (Nat.le_refl _) S1.ln (by decide +kernel) ?_
    walk_at "rd"
    refine rt _ ?_
    refine Rd.adds (Nat.le_refl _) S1.ln (by decide +kernel) ?_
    walk_at "rd"
    refine ⟨sz_of (by simp), fun pe npe mpe => ?_⟩
    have e16 : Ex H15 _ := Ex.new (o := HO.lst ((toldL d).map V.str)) npe
    have q16 := upd_same (H := H15) (a := pe) (o := HO.lst ((toldL d).map V.str))
    have a3 : ((List.range (Int.toNat 3)).map fun i => caughtS d (0 + ((i : Nat) : Int))) = toldL d := by
      unfold toldL caughtS
      rfl
    rw [a3] at h15
    refine ⟨.list ((toldL d).map PyData.str), .list ((toldL d).map PyData.str), dp_strs (e16 _ _ h15), dp_strs q16, S4, S4, ?_⟩
    have q3 : PyData.eqv (.list ((toldL d).map PyData.str)) (.list ((toldL d).map PyData.str)) = true := by
      simp only [PyData.eqv]
      exact eqvAll_self _
    rw [q3]
    exact k _ (eC.trans e16)
end
end Ow

namespace Rd
open PySem L2
theorem for_ {wi : TI} {g : TG} {tb : TS} {D : Ends} {σ : L2.St} {H : Hp} (q : wi σ H fun J H1 => ∃ W : Nat → Nat → L2.St → Hp → Prop, (∃ m, W 0 m σ H1) ∧ ∀ i m σ H, W i m σ H →
  (J.stop i H ∧ D.nx σ H) ∨ (J.go i H ∧ ∃ N : L2.St → Hp → Prop, (∀ σ' H', N σ' H' → ∃ m', m' < m ∧ W (i + 1) m' σ' H') ∧ ∀ x H', J.yld i H x H' → g x σ H' fun σ2 H2 => tb { D with nx := N, ct := N, bk := D.nx } σ2 H2)) : tFor wi g tb D σ H := q
end Rd
namespace Ow
open PySem L2 L2H OwX Rd Evl
abbrev sLaw : Stmt := top 33
theorem scLaw : FnScope ["_law_script", "_law_spot", "_law_dice_here", "_law_some"] ["_law_script"] (defScope sLaw) := ⟨rfl, rfl, rfl, by decide +kernel, rfl, by decide +kernel, by decide +kernel⟩
def spLaw (K : PySem.W.Frag) : Sp := fun vs H Q _ => ∃ (a : Addr) (ns : List Int), vs = [.ref a] ∧ SqL K H a (ns.map V.int) ∧ ∀ H', Q (.bl true) H'
section
variable {P : Program} {w : World} {K : PySem.W.Frag} {mg : Str → Option Value} {base : Heap}
theorem ok_law {f fD fP fR : Addr} {fd fdD fdP fdR : FuncData} (F : Fun K "law" "law" sLaw f fd) (FD : Fun K "_law_dice" "_law_dice" sDice fD fdD) (FP : Fun K "_law_pick" "_law_pick" sPick fP fdP) (FR : Fun K "_law_right" "_law_right" sRight fR fdR) (gD : mg "_law_dice" = some (.ref fD)) (gP : mg "_law_pick" = some (.ref fP))
    (gR : mg "_law_right" = some (.ref fR)) (GD : FnOk P w K mg base CX0 1 fD fdD ["_law_script", "_law_spot"] (spDice K)) (GP : FnOk P w K mg base CX0 2 fP fdP ["_law_dice_here", "_law_items"] (spPick K)) (GR : GFn P w K mg base (L2.CX P w) 4 fR fdR ["_law_worth", "_law_index"] (spRight K)) (T : Blt mg) (TR : BltR mg) :
    GFn P w K mg base (L2.CX P w) 5 f fd ["_law_script"] (spLaw K) := by
  have nd := scLaw.nd
  have bD : Binds K fdD ["_law_script", "_law_spot"] [] := FD.binds fun _ _ _ _ _ _ us hl => match us, hl with | [_, _], _ => rfl
  have bP : Binds K fdP ["_law_dice_here", "_law_items"] [] := FP.binds fun _ _ _ _ _ _ us hl => match us, hl with | [_, _], _ => rfl
  have bR : Binds K fdR ["_law_worth", "_law_index"] [] := FR.binds fun _ _ _ _ _ _ us hl => match us, hl with | [_, _], _ => rfl
  refine gfn_of F scLaw (fun vs H Q E h => ?_) (fun cdv A' outer s H vs Q E hr hg h => ⟨_, pss_cons (ps_for PassesOwn.leaving rfl (pi_range1 (by rfl) TR.range (pa_cons (pe_callB (call_max2 rfl) (by rfl) T.max (by decide +kernel) (pa_cons pe_int (pa_cons (pe_callB (call_min2 rfl) (by rfl) T.min (by decide +kernel) (pa_cons pe_int (pa_cons (pe_callB call_len_seq (by rfl) T.len (by decide +kernel) (pa_cons (pv 0) pa_nil)) pa_nil))) pa_nil))) pa_nil)) (pg_name (i := 1) nd rfl (Or.inl rfl))
    (pss_cons (ps_set (i := 2) nd rfl (Or.inl rfl) (pe_call GD (hr.mono (by decide)) (by rfl) gD FD.kp bD .nil pass0 (pa_cons (pv 0) (pa_cons (pv 1) pa_nil))))
    (pss_cons (ps_set (i := 3) nd rfl (Or.inl rfl) (pe_lstN (pa_cons pe_non (pa_cons pe_bl (pa_cons pe_int (pa_cons pe_str (pa_cons pe_str (pa_cons (pe_tup (pa_cons pe_int (pa_cons pe_int pa_nil))) (pa_cons (pe_lstN (pa_cons pe_int pa_nil)) (pa_cons (pe_disp (pps_cons pe_int pe_int pps_nil) (by rfl) (by rfl) (fun z => by cases z) (by decide)) (pa_cons (pe_tup (pa_cons (pe_tup pa_nil) (pa_cons (pe_tup (pa_cons pe_str (pa_cons pe_int pa_nil))) pa_nil))) (pa_cons pe_str (pa_cons (pe_op op_pow pe_int pe_int) pa_nil)))))))))))))
    (pss_one (ps_if (pt_not (pt_val (pe_callG GR (hr.mono (by decide)) hg (by rfl) gR FR.kp bR (fun _ => never_at) (pa_cons (pe_call GP (hr.mono (by decide)) (by rfl) gP FP.kp bP .nil pass0 (pa_cons (pv 2) (pa_cons (pv 3) pa_nil))) (pa_cons (pe_call GP (hr.mono (by decide)) (by rfl) gP FP.kp bP .nil pass0 (pa_cons (pv 2) (pa_cons (pe_lstN (pa_cons pe_non (pa_cons pe_int (pa_cons pe_int (pa_cons (pe_op op_pow pe_int pe_int) pa_nil))))) pa_nil))) pa_nil))) (fun _ => rfl))) (pss_one (ps_ret pe_bl)) pss_nil)))))
    (pss_one (ps_ret pe_bl)), ?_⟩)
  · obtain ⟨a, ns, rfl, _⟩ := h
    rfl
  · obtain ⟨a, ns, rfl, hS, k⟩ := h
    walk_at "rd"
    refine Rd.for_ (Rd.irng1 ?_)
    walk_at "rd"
    refine ⟨_, _, rfl, Or.inl hS, ?_⟩
    walk_at "rd"
    refine ⟨_, _, rfl, ?_⟩
    walk_at "rd"
    refine ⟨_, _, rfl, ?_⟩
    walk_at "rd"
    generalize hj : (if (if (((ns.map V.int).length : Nat) : Int) < 2 then (((ns.map V.int).length : Nat) : Int) else 2) > 1 then (if (((ns.map V.int).length : Nat) : Int) < 2 then (((ns.map V.int).length : Nat) : Int) else 2) else 1) = j
    have hj2 : 1 ≤ j ∧ j ≤ 2 := by
      rw [← hj]
      split <;> split <;> omega
    refine ⟨j, rfl, by omega, by omega, ?_⟩
    refine for_it walk_range (fun i σ H => (∃ t u v, σ = [some (.ref a), t, u, v]) ∧ SqL K H a (ns.map V.int)) ⟨⟨none, none, none, rfl⟩, hS⟩ (fun _ _ _ _ _ => trivial) (fun i y σ H0 H0' hi hP hY => ?_) (fun σ H9 hP => ?_)
    rotate_left
    · walk_at "rd"
      exact k _
    obtain ⟨⟨t, u, v, rfl⟩, hS0⟩ := hP
    obtain ⟨rfl, rfl⟩ := hY
    walk_at "rd"
    refine ⟨a, _, ns, rfl, by omega, by omega, hS0, fun p l s np mp hdl => ?_⟩
    have hp0 := np
    have e1 := Ex.new (o := dice l s 0) np
    have yp := upd_same (H := H0') (a := p) (o := dice l s 0)
    generalize upd H0' p (dice l s 0) = H1 at e1 yp ⊢
    walk_at "rd"
    refine ⟨Evl.sz_of (by simp), fun ta nta => ?_⟩
    have e2 := Evl.Ex.new (o := HO.tup [V.int 4, V.int 6]) nta
    have yta := upd_same (H := H1) (a := ta) (o := HO.tup [V.int 4, V.int 6])
    generalize upd H1 ta (HO.tup [V.int 4, V.int 6]) = H2 at e2 yta ⊢
    walk_at "rd"
    refine ⟨Evl.sz_of (by simp), fun lb nlb mlb => ?_⟩
    have e3 := Evl.Ex.new (o := HO.lst [V.int 7]) nlb
    have ylb := upd_same (H := H2) (a := lb) (o := HO.lst [V.int 7])
    generalize upd H2 lb (HO.lst [V.int 7]) = H3 at e3 ylb ⊢
    walk_at "rd"
    refine fun pc npc => ⟨upd_same, [(.inl 7, .int 7)], rfl, by decide, ?_⟩
    have e4 : Ex H3 _ := (Ex.new (o := HO.dK []) npc).mut (o := HO.dK (mergeK [] [(.inl 7, .int 7)])) npc
    have ypc := upd_same (H := upd H3 pc (HO.dK [])) (a := pc) (o := HO.dK (mergeK [] [(.inl 7, .int 7)]))
    generalize upd (upd H3 pc (HO.dK [])) pc (HO.dK (mergeK [] [(.inl 7, .int 7)])) = H4 at e4 ypc ⊢
    walk_at "rd"
    refine ⟨Evl.sz_of (by simp), fun tn ntn => ?_⟩
    have e5 := Evl.Ex.new (o := HO.tup []) ntn
    have ytn := upd_same (H := H4) (a := tn) (o := HO.tup [])
    generalize upd H4 tn (HO.tup []) = H5 at e5 ytn ⊢
    walk_at "rd"
    refine ⟨Evl.sz_of (by simp), fun tm ntm => ?_⟩
    have e6 := Evl.Ex.new (o := HO.tup [V.str (Str.ofString "a"), V.int 1]) ntm
    have ytm := upd_same (H := H5) (a := tm) (o := HO.tup [V.str (Str.ofString "a"), V.int 1])
    generalize upd H5 tm (HO.tup [V.str (Str.ofString "a"), V.int 1]) = H6 at e6 ytm ⊢
    walk_at "rd"
    refine ⟨Evl.sz_of (by simp), fun to nto => ?_⟩
    have e7 := Evl.Ex.new (o := HO.tup [V.ref tn, V.ref tm]) nto
    have yto := upd_same (H := H6) (a := to) (o := HO.tup [V.ref tn, V.ref tm])
    generalize upd H6 to (HO.tup [V.ref tn, V.ref tm]) = H7 at e7 yto ⊢
    walk_at "rd"
    refine Rd.ic ⟨by decide, by decide, by decide⟩ ?_
    walk_at "rd"
    refine ⟨Evl.sz_of (by simp), fun L nL mL => ?_⟩
    have e8 := Evl.Ex.new (o := HO.lst [V.non, V.bl true, V.int 0, V.str (Str.ofString "7"), V.str (Str.ofString ""), V.ref ta, V.ref lb, V.ref pc, V.ref to, V.str (Str.ofString "tie a b"), V.int (10 ^ Int.toNat 40)]) nL
    have yL := upd_same (H := H7) (a := L) (o := HO.lst [V.non, V.bl true, V.int 0, V.str (Str.ofString "7"), V.str (Str.ofString ""), V.ref ta, V.ref lb, V.ref pc, V.ref to, V.str (Str.ofString "tie a b"), V.int (10 ^ Int.toNat 40)])
    generalize upd H7 L (HO.lst [V.non, V.bl true, V.int 0, V.str (Str.ofString "7"), V.str (Str.ofString ""), V.ref ta, V.ref lb, V.ref pc, V.ref to, V.str (Str.ofString "tie a b"), V.int (10 ^ Int.toNat 40)]) = H8 at e8 yL ⊢
    walk_at "rd"
    have hpn : H8 p = some (dice l s 0) := (e8 _ _ (e7 _ _ (e6 _ _ (e5 _ _ (e4 _ _ (e3 _ _ (e2 _ _ yp)))))))
    have gta := (e8 _ _ (e7 _ _ (e6 _ _ (e5 _ _ (e4 _ _ (e3 _ _ yta))))))
    have dta : ta ≠ p := fun z => by rw [z, hpn] at gta; cases gta
    have glb := (e8 _ _ (e7 _ _ (e6 _ _ (e5 _ _ (e4 _ _ ylb)))))
    have dlb : lb ≠ p := fun z => by rw [z] at nlb; rw [(e2 _ _ yp)] at nlb; cases nlb
    have gpc := (e8 _ _ (e7 _ _ (e6 _ _ (e5 _ _ ypc))))
    have dpc : pc ≠ p := fun z => by rw [z, hpn] at gpc; cases gpc
    have gtn := (e8 _ _ (e7 _ _ (e6 _ _ ytn)))
    have dtn : tn ≠ p := fun z => by rw [z, hpn] at gtn; cases gtn
    have gtm := (e8 _ _ (e7 _ _ ytm))
    have dtm : tm ≠ p := fun z => by rw [z, hpn] at gtm; cases gtm
    have gto := (e8 _ _ yto)
    have dto : to ≠ p := fun z => by rw [z, hpn] at gto; cases gto
    have gL := yL
    have dL : L ≠ p := fun z => by rw [z] at nL; rw [(e7 _ _ (e6 _ _ (e5 _ _ (e4 _ _ (e3 _ _ (e2 _ _ yp))))))] at nL; cases nL
    have eN : Ex H0' H8 := (((((((e1.trans e2).trans e3).trans e4).trans e5).trans e6).trans e7).trans e8)
    have dat : ∀ H', (∀ q, q ≠ p → ∀ o, H8 q = some o → H' q = some o) → ∀ x, x ∈ [V.non, V.bl true, V.int 0, V.str (Str.ofString "7"), V.str (Str.ofString ""), V.ref ta, V.ref lb, V.ref pc, V.ref to, V.str (Str.ofString "tie a b"), V.int (10 ^ Int.toNat 40)] → ∃ d, d ∈ worths ∧ Dq K H' x d := fun H' hk x hx => by
      simp only [List.mem_cons, List.not_mem_nil, or_false] at hx
      rcases hx with rfl | rfl | rfl | rfl | rfl | rfl | rfl | rfl | rfl | rfl | rfl
      · exact ⟨_, List.mem_cons_self, .non⟩
      · exact ⟨_, by unfold worths; simp, .bl true⟩
      · exact ⟨_, by unfold worths; simp, .int 0⟩
      · exact ⟨_, by unfold worths; simp, .str "7"⟩
      · exact ⟨_, by unfold worths; simp, .str ""⟩
      · exact ⟨.tuple [.int 4, .int 6], by unfold worths; simp, .tup (SqT.of (hk _ dta _ gta)) (.cons (.int 4) (.cons (.int 6) .nil))⟩
      · exact ⟨.list [.int 7], by unfold worths; simp, .lst (SqL.of (hk _ dlb _ glb)) mlb (.cons (.int 7) .nil)⟩
      · exact ⟨.dict [(.int 7, .int 7)], by unfold worths; simp, .dic (kvs := [(.inl 7, .int 7)]) (hk _ dpc _ gpc) (.cons (.int 7) .nil) (.cons (.int 7) .nil)⟩
      · exact ⟨.tuple [.tuple [], .tuple [.str "a", .int 1]], by unfold worths; simp, .tup (SqT.of (hk _ dto _ gto)) (.cons (.tup (SqT.of (hk _ dtn _ gtn)) .nil) (.cons (.tup (SqT.of (hk _ dtm _ gtm)) (.cons (.str "a") (.cons (.int 1) .nil))) .nil))⟩
      · exact ⟨_, by unfold worths; simp, .str "tie a b"⟩
      · exact ⟨.int (10 ^ 40), by unfold worths; simp, .int _⟩
    refine ⟨p, L, l, s, 0, _, rfl, Ne.symm dL, hpn, hdl, gL, by simp, by simp, fun x l1 s1 n1 hx hd1 => ?_⟩
    have eM : Ex H0' (upd H8 p (dice l1 s1 n1)) := eN.mut hp0
    have hpm := upd_same (H := H8) (a := p) (o := dice l1 s1 n1)
    have kM : ∀ q, q ≠ p → ∀ o, H8 q = some o → upd H8 p (dice l1 s1 n1) q = some o := fun q hq o ho => (upd_ne hq).trans ho
    generalize upd H8 p (dice l1 s1 n1) = H9 at eM hpm kM ⊢
    walk_at "rd"
    refine Rd.ic ⟨by decide, by decide, by decide⟩ ?_
    walk_at "rd"
    refine ⟨Evl.sz_of (by simp), fun L2 nL2 mL2 => ?_⟩
    have e10 := Evl.Ex.new (o := HO.lst [V.non, V.int 0, V.int 3, V.int (10 ^ Int.toNat 30)]) nL2
    have yL2 := upd_same (H := H9) (a := L2) (o := HO.lst [V.non, V.int 0, V.int 3, V.int (10 ^ Int.toNat 30)])
    generalize upd H9 L2 (HO.lst [V.non, V.int 0, V.int 3, V.int (10 ^ Int.toNat 30)]) = H10 at e10 yL2 ⊢
    have dL2 : L2 ≠ p := fun z => by rw [z, hpm] at nL2; cases nL2
    walk_at "rd"
    refine ⟨p, L2, l1, s1, n1, _, rfl, Ne.symm dL2, e10 _ _ hpm, hd1, yL2, by simp, by simp, fun y l2 s2 n2 hy hd2 => ?_⟩
    have eF : Ex H0' (upd H10 p (dice l2 s2 n2)) := (eM.trans e10).mut hp0
    have kF : ∀ q, q ≠ p → ∀ o, H8 q = some o → upd H10 p (dice l2 s2 n2) q = some o := fun q hq o ho => (upd_ne hq).trans (e10 _ _ (kM q hq o ho))
    obtain ⟨d, hdw, hdq⟩ := dat _ kF x hx
    obtain ⟨dx, hdxw, hdxq⟩ : ∃ dx, dx ∈ indexes ∧ Dq K (upd H10 p (dice l2 s2 n2)) y dx := by
      simp only [List.mem_cons, List.not_mem_nil, or_false] at hy
      rcases hy with rfl | rfl | rfl | rfl
      · exact ⟨_, List.mem_cons_self, .non⟩
      · exact ⟨_, by unfold indexes; simp, .int 0⟩
      · exact ⟨_, by unfold indexes; simp, .int 3⟩
      · exact ⟨.int (10 ^ 30), by unfold indexes; simp, .int _⟩
    walk_at "rd"
    refine ⟨x, y, d, dx, rfl, hdw, hdxw, hdq, hdxq, fun H' e => ?_⟩
    refine Rd.bl ?_
    refine ite2 (fun c => absurd c (by decide)) (fun _ => ?_)
    exact ⟨⟨_, _, _, rfl⟩, ex_l (eF.trans e) hS0⟩
end
end Ow

/-! The law's own call, for a def that is called where no guard stands. -/
namespace OwX
open PySem PySem.Spec PyProof.Rows L2
/-- the one object that may be tracked at the start is the list that is handed in -/
def Sole (K : PySem.W.Frag) (H : Hp) (a : Addr) : Prop := ∀ b, H b = none ∨ (b = a ∧ K.lookup b = none ∧ ∃ ob xs, H b = some (.frz ob (.lst xs)))
section
variable {P : Program} {w : World} {K : PySem.W.Frag} {mg mb : Str → Option Value} {a fa : Addr} {s : Shared} {H : Hp} {us : List Value} {ns : List Int} {fd : FuncData} {k : Nat} {x : Str} {sp : Sp}
theorem sole_hid {b : Addr} {o : Obj} (z : Sole K H a) (g : s.heap.get? b = some o) (h : b = a → K.lookup b = none → False) : (hidT s.heap H).get? b = some o := by
  rcases z b with n | ⟨e, n, _⟩
  · exact hidT_get g n
  · exact (h e n).elim
theorem sole_ns {b : Addr} {m : Str → Option Value} (z : Sole K H a) (ga : s.heap.get? a = some { cls := .type "list", data := .seq us.toArray }) (n : s.heap.Ns b m) : (hidT s.heap H).Ns b m := by
  obtain ⟨o, es, ep, g, hd, rest⟩ := n
  refine ⟨o, es, ep, sole_hid z g fun e _ => ?_, hd, rest⟩
  rw [e, ga] at g
  cases g
  exact nomatch hd
theorem sole_env (z : Sole K H a) (KX : K.In s.heap) (ga : s.heap.get? a = some { cls := .type "list", data := .seq us.toArray }) (hm : s.heap.Ns mainGlobals mg) (hbn : s.heap.Ns builtinsNs mb) (hbt : ∀ y : Str, y ≠ "__name__" → mb y = bootBuiltins y) (hl : s.heap.NoLimit)
    (hg : s.gens = #[]) (ok : HOk P w H s.heap) : K.In (hidT s.heap H) ∧ (hidT s.heap H).Ns mainGlobals mg ∧ Env0 P w K mg (hidT s.heap H) callerA [] s H := by
  have k1 : K.In (hidT s.heap H) := fun b o e => sole_hid z (KX b o e) fun _ n => by rw [n] at e; cases e
  have k2 := sole_ns z ga hm
  obtain ⟨mc, l1, l2⟩ := hl
  exact ⟨k1, k2, { frames := rfl, mod := ⟨k1, k2, ⟨mb, sole_ns z ga hbn, hbt⟩, ⟨mc, sole_ns z ga l1, l2⟩⟩, bs := fun _ _ e => of_hidT e, bsz := Nat.le_of_eq (hidT_size _ _), funs := trivial, frf := (fun _ hb => nomatch hb), hok := ok, bare := AllBare.of_eq hg }⟩
/-- the object at a, tracked or the module's own -/
theorem sole_at (ga : s.heap.get? a = some { cls := .type "list", data := .seq us.toArray }) (KX : K.In s.heap) (hi : IntsAre us ns) (hz : ns.length ≤ sizeLine) : ∃ H, Sole K H a ∧ SqL K H a (ns.map V.int) ∧ HOk P w H s.heap := by
  have rv := vals_ints hi
  have lz := hi.length
  cases hk : K.lookup a with
  | some o =>
    have g := KX a o hk
    rw [ga] at g
    cases g
    refine ⟨fun _ => none, fun _ => Or.inl rfl, Or.inr ⟨_, us.toArray, _, hk, rfl, rfl, rfl, ?_, ?_⟩, fun _ _ e => nomatch e⟩
    · rw [List.size_toArray]
      omega
    · rw [List.toList_toArray]
      exact rv
  | none =>
    refine ⟨upd (fun _ => none) a (.frz { cls := .type "list", data := .seq us.toArray } (.lst (ns.map V.int))), fun b => ?_, Or.inl (Or.inr ⟨_, upd_same⟩), fun b u e => ?_⟩
    · by_cases h : b = a
      · subst h
        exact Or.inr ⟨rfl, hk, _, _, upd_same⟩
      · exact Or.inl (upd_ne h)
    · by_cases h : b = a
      · subst h
        rw [upd_same] at e
        cases e
        exact ⟨ga, by rw [List.length_map]; exact hz, us, _, rv, ga⟩
      · rw [upd_ne h] at e
        cases e
/-- the law's def answers True, and what stood before still stands -/
theorem law_callG (KX : K.In s.heap) (hm : s.heap.Ns mainGlobals mg) (hbn : s.heap.Ns builtinsNs mb) (hbt : ∀ y : Str, y ≠ "__name__" → mb y = bootBuiltins y) (hl : s.heap.NoLimit) (hg : s.gens = #[]) (ga : s.heap.get? a = some { cls := .type "list", data := .seq us.toArray })
    (hi : IntsAre us ns) (hz : ns.length ≤ sizeLine) (hr : Room k callerA) (F : ∀ base : Heap, K.In base → base.Ns mainGlobals mg → GFn P w K mg base (L2.CX P w) k fa fd [x] sp) (hb : ∀ (s : Shared) (u : Value), BindsTo s fd ⟨[u], []⟩ [(x, u)])
    (hs : ∀ H : Hp, SqL K H a (ns.map V.int) → sp [.ref a] H (fun v _ => v = .bl true) fun _ _ _ => False) :
    codeAny (model P w) callerA (.call (.ref fa) ⟨[.ref a], []⟩) (fun r s' => r = .ok (.ret (.bool true)) ∧ OldK s.heap s'.heap ∧ s'.os = s.os ∧ AllBare s'.gens) s := by
  obtain ⟨H, z, sq, ok⟩ := sole_at (P := P) (w := w) ga KX hi hz
  obtain ⟨k1, k2, e0⟩ := sole_env z KX ga hm hbn hbt hl hg ok
  refine codeAny_mono ((F _ k1 k2).run callerA [] s H ⟨[.ref a], []⟩ [.ref a] [.ref a] _ _ hr rfl e0 (hb s (.ref a)) (.cons rfl .nil) (hs H sq)) fun r s' h => ?_
  rcases r with e | fl
  · obtain ⟨_, _, _, _, _, _, _, _, _, _, _, _, no⟩ := (show L2.CX P w [] H s (fun _ _ _ => False) e s' from h)
    exact no.elim
  rcases fl with _ | _ | _ | u
  · exact h.elim
  · exact h.elim
  · exact h.elim
  obtain ⟨v, H', ho, hbare, un, ok', rv, q⟩ := h
  have q2 : v = .bl true := q
  subst q2
  cases (show u = Value.bool true from rv)
  refine ⟨rfl, OldK.of_keep fun b o g => ?_, ho, hbare⟩
  rcases z b with n | ⟨_, _, ob, xs, n⟩
  · exact un.keep b o g n (fun m => nomatch m) (by simp)
  · have t1 := (show ObjOk P w H s.heap b (.frz ob (.lst xs)) from ok b _ n).1
    have t2 := (show ObjOk P w H' s'.heap b (.frz ob (.lst xs)) from ok' b _ (un.frzs b ob _ n)).1
    rw [g] at t1
    cases t1
    exact t2
/-- the goal that is left of a law's row -/
theorem walk_ofG {l : PySem.W.OpenLaw} {n : Nat} {q : Program} {loose : List Str} {XP : (Str → Option Value) → Heap → Prop} {YP : World → Heap → Prop} {d : DefRec} {KK : Params → PySem.W.Frag} {spK : PySem.W.Frag → Sp} (hn : l.most = some n) (hn2 : n ≤ sizeLine) (hdf : d.params.defaults = []) (hr : Room k callerA)
    (hY : ∀ (w : World) (h : Heap), YP w h → (KK w.params).In h)
    (F : ∀ (w : World) (mg : Str → Option Value) (fa : Addr) (h : Heap), (KK w.params).In h → h.Ns mainGlobals mg → mg d.name = some (.ref fa) →
      ∃ fd : FuncData, (∀ (s : Shared) (u : Value), BindsTo s fd ⟨[u], []⟩ [(x, u)]) ∧ ∀ base : Heap, (KK w.params).In base → base.Ns mainGlobals mg → GFn l.prog w (KK w.params) mg base (L2.CX l.prog w) k fa fd [x] (spK (KK w.params)))
    (hs : ∀ (K : PySem.W.Frag) (H : Hp) (a : Addr) (ns : List Int), SqL K H a (ns.map V.int) → spK K [.ref a] H (fun v _ => v = .bl true) fun _ _ _ => False) : PySem.W.WalkO q loose XP YP l.row.toRowW d [] (fun f vs => PySem.call f vs) := by
  refine Att.attach_call hn hdf fun w _ s1 mg mb fa _ _ _ _ a us ns G Y _ _ _ hmg ga hi hlen hg => ?_
  have KX := hY w _ Y
  obtain ⟨fd, hb, GF⟩ := F w mg fa _ KX G.T.g hmg
  exact law_callG KX G.T.g G.T.b G.T.builtins G.T.nolimit hg ga hi (Nat.le_trans hlen hn2) hr GF hb fun H sq => hs _ H a ns sq
end
end OwX

namespace Ow
open PySem L2 L2H OwX Rd Evl
/-- all that is asked of the table of own classes, as one test -/
def tabB (K : PySem.W.Frag) (As : List Addr) : Bool :=
  (List.range 21).all fun i => errChk K (As.getD i 0) && (PySem.W.keepIn K (.ref (As.getD i 0)) && (decide (PySem.W.typeIn K (.ref (As.getD i 0)) = some (.type "type")) && ((decide (15 ≤ i) || PySem.W.excIn K (As.getD i 0) bmVE "ValueError.__new__") &&
    (((List.range 21).all fun j => decide (PySem.W.kitOne K (.ref (As.getD i 0)) (.ref (As.getD j 0)) = some (subOwn i j)) && decide (PySem.W.exmOne K (.ref (As.getD i 0)) (.ref (As.getD j 0)) = some (subOwn i j))) &&
      (List.range 7).all fun j => decide (PySem.W.kitOne K (.ref (As.getD i 0)) (.type (bnames.getD j "")) = some (subB i j))))))
theorem tab_ok {K : PySem.W.Frag} {As : List Addr} (h : tabB K As = true) : ClsK K (fun n => As.getD n 0) ∧ ClsM K (fun n => As.getD n 0) ∧ ClsH K (fun n => As.getD n 0) := by
  have z : ∀ i, i < 21 → (errChk K (As.getD i 0) = true ∧ PySem.W.keepIn K (.ref (As.getD i 0)) = true ∧ PySem.W.typeIn K (.ref (As.getD i 0)) = some (.type "type") ∧ (i < 15 → PySem.W.excIn K (As.getD i 0) bmVE "ValueError.__new__" = true) ∧
      (∀ j, j < 21 → PySem.W.kitOne K (.ref (As.getD i 0)) (.ref (As.getD j 0)) = some (subOwn i j) ∧ PySem.W.exmOne K (.ref (As.getD i 0)) (.ref (As.getD j 0)) = some (subOwn i j)) ∧ ∀ j, j < 7 → PySem.W.kitOne K (.ref (As.getD i 0)) (.type (bnames.getD j "")) = some (subB i j)) := fun i hi => by
    have y := List.all_eq_true.mp h i (List.mem_range.mpr hi)
    simp only [Bool.and_eq_true, Bool.or_eq_true, decide_eq_true_eq, List.all_eq_true, List.mem_range] at y
    obtain ⟨y1, y2, y3, y4, y5, y6⟩ := y
    exact ⟨y1, y2, y3, fun hl => y4.resolve_left (by omega), y5, y6⟩
  exact ⟨⟨fun i hi => errChk_ok (z i hi).1, fun i j hi hj => ((z i hi).2.2.2.2.1 j hj).1, fun i j hi hj => (z i hi).2.2.2.2.2 j hj⟩, ⟨fun i hi => (z i (by omega)).2.2.2.1 hi, fun i hi => (z i hi).2.1⟩,
    ⟨fun i j hi hj => ((z i hi).2.2.2.2.1 j hj).2, fun i hi => (z i hi).2.2.1⟩⟩
theorem all_mk {P : Program} {w : World} {K : PySem.W.Frag} {h : Heap} {mg : Str → Option Value} {fa c0 c1 c2 c3 c4 c5 c6 c7 c8 c9 c10 c11 c12 c13 c14 c15 c16 c17 c18 c19 c20 i15 i16 i17 i18 i19 i20 f1 f2 f3 f4 f5 f6 f7 f8 f9 f10 f11 : Addr} {od15 od16 od17 od18 od19 od20 an15 an16 an17 an18 an19 an20 fod1 fod2 fod3 fod4 fod5 fod6 fod7 fod8 fod9 fod10 fod11 fan1 fan2 fan3 fan4 fan5 fan6 fan7 fan8 fan9 fan10 fan11 : Option Addr} {sl15 sl16 sl17 sl18 sl19 sl20 fsl1 fsl2 fsl3 fsl4 fsl5 fsl6 fsl7 fsl8 fsl9 fsl10 fsl11 : Array (Option Value)} {oc15 dc15 pm15 cd15 ct15 oc16 dc16 pm16 cd16 ct16 oc17 dc17 pm17 cd17 ct17 oc18 dc18 pm18 cd18 ct18 oc19 dc19 pm19 cd19 ct19 oc20 dc20 pm20 cd20 ct20 foc1 fkv1 fdc1 fpm1 fcd1 fct1 foc2 fkv2 fdc2 fpm2 fcd2 fct2 foc3 fkv3 fdc3 fpm3 fcd3 fct3 foc4 fkv4 fdc4 fpm4 fcd4 fct4 foc5 fkv5 fdc5 fpm5 fcd5 fct5 foc6 fkv6 fdc6 fpm6 fcd6 fct6 foc7 fkv7 fdc7 fpm7 fcd7 fct7 foc8 fkv8 fdc8 fpm8 fcd8 fct8 foc9 fkv9 fdc9 fpm9 fcd9 fct9 foc10 fkv10 fdc10 fpm10 fcd10 fct10 foc11 fkv11 fdc11 fpm11 fcd11 fct11 : Value} (X : K.In h) (G : h.Ns mainGlobals mg) (hfa : mg "law" = some (.ref fa))
    (a0 : PySem.W.nsIn K mainGlobals "WebError" = some (some (.ref c0)))
    (a1 : PySem.W.nsIn K mainGlobals "InvalidPlace" = some (some (.ref c1)))
    (a2 : PySem.W.nsIn K mainGlobals "InvalidTie" = some (some (.ref c2)))
    (a3 : PySem.W.nsIn K mainGlobals "InvalidRing" = some (some (.ref c3)))
    (a4 : PySem.W.nsIn K mainGlobals "InvalidWeb" = some (some (.ref c4)))
    (a5 : PySem.W.nsIn K mainGlobals "InvalidTable" = some (some (.ref c5)))
    (a6 : PySem.W.nsIn K mainGlobals "InvalidRim" = some (some (.ref c6)))
    (a7 : PySem.W.nsIn K mainGlobals "InvalidDebts" = some (some (.ref c7)))
    (a8 : PySem.W.nsIn K mainGlobals "InvalidPlan" = some (some (.ref c8)))
    (a9 : PySem.W.nsIn K mainGlobals "InvalidTree" = some (some (.ref c9)))
    (a10 : PySem.W.nsIn K mainGlobals "InvalidRide" = some (some (.ref c10)))
    (a11 : PySem.W.nsIn K mainGlobals "InvalidLeaning" = some (some (.ref c11)))
    (a12 : PySem.W.nsIn K mainGlobals "InvalidTurn" = some (some (.ref c12)))
    (a13 : PySem.W.nsIn K mainGlobals "InvalidDrawing" = some (some (.ref c13)))
    (a14 : PySem.W.nsIn K mainGlobals "InvalidOperation" = some (some (.ref c14)))
    (a15 : PySem.W.nsIn K mainGlobals "ParseError" = some (some (.ref c15)))
    (a16 : PySem.W.nsIn K mainGlobals "UnknownName" = some (some (.ref c16)))
    (a17 : PySem.W.nsIn K mainGlobals "InvalidNumber" = some (some (.ref c17)))
    (a18 : PySem.W.nsIn K mainGlobals "NothingToUndo" = some (some (.ref c18)))
    (a19 : PySem.W.nsIn K mainGlobals "TooMany" = some (some (.ref c19)))
    (a20 : PySem.W.nsIn K mainGlobals "Refused" = some (some (.ref c20)))
    (b15 : PySem.W.findIn K (.ref c15) "__init__" = some (some (.ref i15)))
    (l15 : K.lookup i15 = some ⟨oc15, od15, .func (PySem.W.fnOf "__init__" "ParseError.__init__" (iA "number" ⟨34, 17, 34, 21⟩ ⟨34, 23, 34, 29⟩) (iB "number" ⟨35, 8, 35, 12⟩ ⟨35, 8, 35, 19⟩ ⟨35, 22, 35, 28⟩ ⟨35, 8, 35, 28⟩) (iS "number") .none .none dc15 pm15 an15 cd15 ct15), sl15⟩)
    (d15 : PySem.W.codeIn K cd15 "ParseError.__init__" = true)
    (b16 : PySem.W.findIn K (.ref c16) "__init__" = some (some (.ref i16)))
    (l16 : K.lookup i16 = some ⟨oc16, od16, .func (PySem.W.fnOf "__init__" "UnknownName.__init__" (iA "word" ⟨38, 17, 38, 21⟩ ⟨38, 23, 38, 27⟩) (iB "word" ⟨39, 8, 39, 12⟩ ⟨39, 8, 39, 17⟩ ⟨39, 20, 39, 24⟩ ⟨39, 8, 39, 24⟩) (iS "word") .none .none dc16 pm16 an16 cd16 ct16), sl16⟩)
    (d16 : PySem.W.codeIn K cd16 "UnknownName.__init__" = true)
    (b17 : PySem.W.findIn K (.ref c17) "__init__" = some (some (.ref i17)))
    (l17 : K.lookup i17 = some ⟨oc17, od17, .func (PySem.W.fnOf "__init__" "InvalidNumber.__init__" (iA "value" ⟨42, 17, 42, 21⟩ ⟨42, 23, 42, 28⟩) (iB "value" ⟨43, 8, 43, 12⟩ ⟨43, 8, 43, 18⟩ ⟨43, 21, 43, 26⟩ ⟨43, 8, 43, 26⟩) (iS "value") .none .none dc17 pm17 an17 cd17 ct17), sl17⟩)
    (d17 : PySem.W.codeIn K cd17 "InvalidNumber.__init__" = true)
    (b18 : PySem.W.findIn K (.ref c18) "__init__" = some (some (.ref i18)))
    (l18 : K.lookup i18 = some ⟨oc18, od18, .func (PySem.W.fnOf "__init__" "NothingToUndo.__init__" (iA "many" ⟨46, 17, 46, 21⟩ ⟨46, 23, 46, 27⟩) (iB "many" ⟨47, 8, 47, 12⟩ ⟨47, 8, 47, 17⟩ ⟨47, 20, 47, 24⟩ ⟨47, 8, 47, 24⟩) (iS "many") .none .none dc18 pm18 an18 cd18 ct18), sl18⟩)
    (d18 : PySem.W.codeIn K cd18 "NothingToUndo.__init__" = true)
    (b19 : PySem.W.findIn K (.ref c19) "__init__" = some (some (.ref i19)))
    (l19 : K.lookup i19 = some ⟨oc19, od19, .func (PySem.W.fnOf "__init__" "TooMany.__init__" (iA "limit" ⟨50, 17, 50, 21⟩ ⟨50, 23, 50, 28⟩) (iB "limit" ⟨51, 8, 51, 12⟩ ⟨51, 8, 51, 18⟩ ⟨51, 21, 51, 26⟩ ⟨51, 8, 51, 26⟩) (iS "limit") .none .none dc19 pm19 an19 cd19 ct19), sl19⟩)
    (d19 : PySem.W.codeIn K cd19 "TooMany.__init__" = true)
    (b20 : PySem.W.findIn K (.ref c20) "__init__" = some (some (.ref i20)))
    (l20 : K.lookup i20 = some ⟨oc20, od20, .func (PySem.W.fnOf "__init__" "Refused.__init__" (iA "pledge" ⟨54, 17, 54, 21⟩ ⟨54, 23, 54, 29⟩) (iB "pledge" ⟨55, 8, 55, 12⟩ ⟨55, 8, 55, 19⟩ ⟨55, 22, 55, 28⟩ ⟨55, 8, 55, 28⟩) (iS "pledge") .none .none dc20 pm20 an20 cd20 ct20), sl20⟩)
    (d20 : PySem.W.codeIn K cd20 "Refused.__init__" = true)
    (ga1 : PySem.W.nsIn K mainGlobals "_law_dice" = some (some (.ref f1)))
    (gl1 : K.lookup f1 = some ⟨foc1, fod1, .func (PySem.W.fnOf "_law_dice" "_law_dice" (defArgs sDice) (defBody sDice) (defScope sDice) .none fkv1 fdc1 fpm1 fan1 fcd1 fct1), fsl1⟩)
    (gc1 : PySem.W.codeIn K fcd1 "_law_dice" = true)
    (gk1 : PySem.W.keepIn K (.ref f1) = true)
    (ga2 : PySem.W.nsIn K mainGlobals "_law_roll" = some (some (.ref f2)))
    (gl2 : K.lookup f2 = some ⟨foc2, fod2, .func (PySem.W.fnOf "_law_roll" "_law_roll" (defArgs sRoll) (defBody sRoll) (defScope sRoll) .none fkv2 fdc2 fpm2 fan2 fcd2 fct2), fsl2⟩)
    (gc2 : PySem.W.codeIn K fcd2 "_law_roll" = true)
    (gk2 : PySem.W.keepIn K (.ref f2) = true)
    (ga3 : PySem.W.nsIn K mainGlobals "_law_pick" = some (some (.ref f3)))
    (gl3 : K.lookup f3 = some ⟨foc3, fod3, .func (PySem.W.fnOf "_law_pick" "_law_pick" (defArgs sPick) (defBody sPick) (defScope sPick) .none fkv3 fdc3 fpm3 fan3 fcd3 fct3), fsl3⟩)
    (gc3 : PySem.W.codeIn K fcd3 "_law_pick" = true)
    (gk3 : PySem.W.keepIn K (.ref f3) = true)
    (ga4 : PySem.W.nsIn K mainGlobals "_law_made_all" = some (some (.ref f4)))
    (gl4 : K.lookup f4 = some ⟨foc4, fod4, .func (PySem.W.fnOf "_law_made_all" "_law_made_all" (defArgs sMade) (defBody sMade) (defScope sMade) .none fkv4 fdc4 fpm4 fan4 fcd4 fct4), fsl4⟩)
    (gc4 : PySem.W.codeIn K fcd4 "_law_made_all" = true)
    (gk4 : PySem.W.keepIn K (.ref f4) = true)
    (ga5 : PySem.W.nsIn K mainGlobals "_law_letters" = some (some (.ref f5)))
    (gl5 : K.lookup f5 = some ⟨foc5, fod5, .func (PySem.W.fnOf "_law_letters" "_law_letters" (defArgs sLetters) (defBody sLetters) (defScope sLetters) .none fkv5 fdc5 fpm5 fan5 fcd5 fct5), fsl5⟩)
    (gc5 : PySem.W.codeIn K fcd5 "_law_letters" = true)
    (gk5 : PySem.W.keepIn K (.ref f5) = true)
    (ga6 : PySem.W.nsIn K mainGlobals "_law_kinds" = some (some (.ref f6)))
    (gl6 : K.lookup f6 = some ⟨foc6, fod6, .func (PySem.W.fnOf "_law_kinds" "_law_kinds" (defArgs sKinds) (defBody sKinds) (defScope sKinds) .none fkv6 fdc6 fpm6 fan6 fcd6 fct6), fsl6⟩)
    (gc6 : PySem.W.codeIn K fcd6 "_law_kinds" = true)
    (gk6 : PySem.W.keepIn K (.ref f6) = true)
    (ga7 : PySem.W.nsIn K mainGlobals "_law_all" = some (some (.ref f7)))
    (gl7 : K.lookup f7 = some ⟨foc7, fod7, .func (PySem.W.fnOf "_law_all" "_law_all" (defArgs sAll) (defBody sAll) (defScope sAll) .none fkv7 fdc7 fpm7 fan7 fcd7 fct7), fsl7⟩)
    (gc7 : PySem.W.codeIn K fcd7 "_law_all" = true)
    (gk7 : PySem.W.keepIn K (.ref f7) = true)
    (ga8 : PySem.W.nsIn K mainGlobals "_law_kept" = some (some (.ref f8)))
    (gl8 : K.lookup f8 = some ⟨foc8, fod8, .func (PySem.W.fnOf "_law_kept" "_law_kept" (defArgs sKept) (defBody sKept) (defScope sKept) .none fkv8 fdc8 fpm8 fan8 fcd8 fct8), fsl8⟩)
    (gc8 : PySem.W.codeIn K fcd8 "_law_kept" = true)
    (gk8 : PySem.W.keepIn K (.ref f8) = true)
    (ga9 : PySem.W.nsIn K mainGlobals "_law_caught" = some (some (.ref f9)))
    (gl9 : K.lookup f9 = some ⟨foc9, fod9, .func (PySem.W.fnOf "_law_caught" "_law_caught" (defArgs sCaught) (defBody sCaught) (defScope sCaught) .none fkv9 fdc9 fpm9 fan9 fcd9 fct9), fsl9⟩)
    (gc9 : PySem.W.codeIn K fcd9 "_law_caught" = true)
    (gk9 : PySem.W.keepIn K (.ref f9) = true)
    (ga10 : PySem.W.nsIn K mainGlobals "_law_right" = some (some (.ref f10)))
    (gl10 : K.lookup f10 = some ⟨foc10, fod10, .func (PySem.W.fnOf "_law_right" "_law_right" (defArgs sRight) (defBody sRight) (defScope sRight) .none fkv10 fdc10 fpm10 fan10 fcd10 fct10), fsl10⟩)
    (gc10 : PySem.W.codeIn K fcd10 "_law_right" = true)
    (gk10 : PySem.W.keepIn K (.ref f10) = true)
    (ga11 : PySem.W.nsIn K mainGlobals "law" = some (some (.ref f11)))
    (gl11 : K.lookup f11 = some ⟨foc11, fod11, .func (PySem.W.fnOf "law" "law" (defArgs sLaw) (defBody sLaw) (defScope sLaw) .none fkv11 fdc11 fpm11 fan11 fcd11 fct11), fsl11⟩)
    (gc11 : PySem.W.codeIn K fcd11 "law" = true)
    (gk11 : PySem.W.keepIn K (.ref f11) = true)
    (z_len : PySem.W.nsIn K mainGlobals "len" = some none)
    (z_int : PySem.W.nsIn K mainGlobals "int" = some none)
    (z_max : PySem.W.nsIn K mainGlobals "max" = some none)
    (z_min : PySem.W.nsIn K mainGlobals "min" = some none)
    (z_abs : PySem.W.nsIn K mainGlobals "abs" = some none)
    (z_range : PySem.W.nsIn K mainGlobals "range" = some none)
    (z_repr : PySem.W.nsIn K mainGlobals "repr" = some none)
    (z_isinstance : PySem.W.nsIn K mainGlobals "isinstance" = some none)
    (z_ValueError : PySem.W.nsIn K mainGlobals "ValueError" = some none)
    (z_KeyError : PySem.W.nsIn K mainGlobals "KeyError" = some none)
    (z_IndexError : PySem.W.nsIn K mainGlobals "IndexError" = some none)
    (z_LookupError : PySem.W.nsIn K mainGlobals "LookupError" = some none)
    (z_RuntimeError : PySem.W.nsIn K mainGlobals "RuntimeError" = some none)
    (z_OverflowError : PySem.W.nsIn K mainGlobals "OverflowError" = some none)
    (z_ArithmeticError : PySem.W.nsIn K mainGlobals "ArithmeticError" = some none)
    (tab : tabB K [c0, c1, c2, c3, c4, c5, c6, c7, c8, c9, c10, c11, c12, c13, c14, c15, c16, c17, c18, c19, c20] = true)
    (x15 : exChk K c15 i15 "number" [.type "ValueError", .type "Exception", .type "BaseException", .type "object"] "ValueError.__new__" = true)
    (x16 : exChk K c16 i16 "word" [.type "KeyError", .type "LookupError", .type "Exception", .type "BaseException", .type "object"] "LookupError.__new__" = true)
    (x17 : exChk K c17 i17 "value" [.type "IndexError", .type "LookupError", .type "Exception", .type "BaseException", .type "object"] "IndexError.__new__" = true)
    (x18 : exChk K c18 i18 "many" [.type "RuntimeError", .type "Exception", .type "BaseException", .type "object"] "RuntimeError.__new__" = true)
    (x19 : exChk K c19 i19 "limit" [.type "OverflowError", .type "ArithmeticError", .type "Exception", .type "BaseException", .type "object"] "OverflowError.__new__" = true)
    (x20 : exChk K c20 i20 "pledge" [.type "ArithmeticError", .type "Exception", .type "BaseException", .type "object"] "ArithmeticError.__new__" = true)
    : ∃ fd : FuncData, (∀ (s : Shared) (u : Value), BindsTo s fd ⟨[u], []⟩ [("_law_script", u)]) ∧ ∀ base : Heap, K.In base → base.Ns mainGlobals mg → GFn P w K mg base (L2.CX P w) 5 fa fd ["_law_script"] (spLaw K) := by
  have e := hfa.symm.trans (PySem.W.mg_of X G ga11)
  cases e
  obtain ⟨CK, CM, CH⟩ := tab_ok tab
  have GG : ClsG mg (fun n => ([c0, c1, c2, c3, c4, c5, c6, c7, c8, c9, c10, c11, c12, c13, c14, c15, c16, c17, c18, c19, c20] : List Addr).getD n 0) := ⟨PySem.W.mg_of X G a0, PySem.W.mg_of X G a1, PySem.W.mg_of X G a2, PySem.W.mg_of X G a3, PySem.W.mg_of X G a4, PySem.W.mg_of X G a5, PySem.W.mg_of X G a6, PySem.W.mg_of X G a7, PySem.W.mg_of X G a8, PySem.W.mg_of X G a9, PySem.W.mg_of X G a10, PySem.W.mg_of X G a11, PySem.W.mg_of X G a12, PySem.W.mg_of X G a13, PySem.W.mg_of X G a14, PySem.W.mg_of X G a15, PySem.W.mg_of X G a16, PySem.W.mg_of X G a17, PySem.W.mg_of X G a18, PySem.W.mg_of X G a19, PySem.W.mg_of X G a20⟩
  have T15 : ETxt K mg "ParseError" "ParseError.__init__" c15 i15 "number" := { gC := PySem.W.mg_of X G a15, fs := by decide, fd := by decide, bi := (fun _ _ _ _ _ _ _ _ _ _ _ _ _ _ => rfl), ba := ⟨"ValueError", _, _, _, _, _, PySem.F.excBase_ValueError, PySem.F.store_ValueError, ⟨by decide, by decide, by decide⟩, exChk_ok x15⟩, fn := ⟨_, _, _, _, _, _, _, _, _, _, _, _, _, _, l15, d15⟩ }
  have T16 : ETxt K mg "UnknownName" "UnknownName.__init__" c16 i16 "word" := { gC := PySem.W.mg_of X G a16, fs := by decide, fd := by decide, bi := (fun _ _ _ _ _ _ _ _ _ _ _ _ _ _ => rfl), ba := ⟨"LookupError", _, _, _, _, _, PySem.F.excBase_LookupError, OwF.storeKey, ⟨by decide, by decide, by decide⟩, exChk_ok x16⟩, fn := ⟨_, _, _, _, _, _, _, _, _, _, _, _, _, _, l16, d16⟩ }
  have T17 : ETxt K mg "InvalidNumber" "InvalidNumber.__init__" c17 i17 "value" := { gC := PySem.W.mg_of X G a17, fs := by decide, fd := by decide, bi := (fun _ _ _ _ _ _ _ _ _ _ _ _ _ _ => rfl), ba := ⟨"IndexError", _, _, _, _, _, PySem.F.excBase_IndexError, PySem.F.store_IndexError, ⟨by decide, by decide, by decide⟩, exChk_ok x17⟩, fn := ⟨_, _, _, _, _, _, _, _, _, _, _, _, _, _, l17, d17⟩ }
  have T18 : ETxt K mg "NothingToUndo" "NothingToUndo.__init__" c18 i18 "many" := { gC := PySem.W.mg_of X G a18, fs := by decide, fd := by decide, bi := (fun _ _ _ _ _ _ _ _ _ _ _ _ _ _ => rfl), ba := ⟨"RuntimeError", _, _, _, _, _, PySem.F.excBase_RuntimeError, PySem.F.store_RuntimeError, ⟨by decide, by decide, by decide⟩, exChk_ok x18⟩, fn := ⟨_, _, _, _, _, _, _, _, _, _, _, _, _, _, l18, d18⟩ }
  have T19 : ETxt K mg "TooMany" "TooMany.__init__" c19 i19 "limit" := { gC := PySem.W.mg_of X G a19, fs := by decide, fd := by decide, bi := (fun _ _ _ _ _ _ _ _ _ _ _ _ _ _ => rfl), ba := ⟨"OverflowError", _, _, _, _, _, PySem.F.excBase_OverflowError, PySem.F.store_OverflowError, ⟨by decide, by decide, by decide⟩, exChk_ok x19⟩, fn := ⟨_, _, _, _, _, _, _, _, _, _, _, _, _, _, l19, d19⟩ }
  have T20 : ETxt K mg "Refused" "Refused.__init__" c20 i20 "pledge" := { gC := PySem.W.mg_of X G a20, fs := by decide, fd := by decide, bi := (fun _ _ _ _ _ _ _ _ _ _ _ _ _ _ => rfl), ba := ⟨"ArithmeticError", _, _, _, _, _, PySem.F.excBase_ArithmeticError, PySem.F.store_ArithmeticError, ⟨by decide, by decide, by decide⟩, exChk_ok x20⟩, fn := ⟨_, _, _, _, _, _, _, _, _, _, _, _, _, _, l20, d20⟩ }
  have F1 := fun_mk (st := sDice) gl1 gc1 gk1
  have F2 := fun_mk (st := sRoll) gl2 gc2 gk2
  have F3 := fun_mk (st := sPick) gl3 gc3 gk3
  have F4 := fun_mk (st := sMade) gl4 gc4 gk4
  have F5 := fun_mk (st := sLetters) gl5 gc5 gk5
  have F6 := fun_mk (st := sKinds) gl6 gc6 gk6
  have F7 := fun_mk (st := sAll) gl7 gc7 gk7
  have F8 := fun_mk (st := sKept) gl8 gc8 gk8
  have F9 := fun_mk (st := sCaught) gl9 gc9 gk9
  have F10 := fun_mk (st := sRight) gl10 gc10 gk10
  have F11 := fun_mk (st := sLaw) gl11 gc11 gk11
  have TB : Blt mg := ⟨PySem.W.mg_none_of X G z_len, PySem.W.mg_none_of X G z_int, PySem.W.mg_none_of X G z_max, PySem.W.mg_none_of X G z_min, PySem.W.mg_none_of X G z_abs, PySem.W.mg_none_of X G z_range⟩
  have TX : BltX mg := ⟨PySem.W.mg_none_of X G z_isinstance, PySem.W.mg_none_of X G z_int, PySem.W.mg_none_of X G z_ValueError, PySem.W.mg_none_of X G z_KeyError, PySem.W.mg_none_of X G z_IndexError, PySem.W.mg_none_of X G z_LookupError, PySem.W.mg_none_of X G z_RuntimeError, PySem.W.mg_none_of X G z_OverflowError, PySem.W.mg_none_of X G z_ArithmeticError⟩
  have TR : BltR mg := ⟨PySem.W.mg_none_of X G z_repr, PySem.W.mg_none_of X G z_range⟩
  refine ⟨PySem.W.fnOf "law" "law" (defArgs sLaw) (defBody sLaw) (defScope sLaw) .none fkv11 fdc11 fpm11 fan11 fcd11 fct11, fun s u => .of_eq rfl, fun base _ _ => ?_⟩
  have g : ∀ {n : Str} {v : Value}, PySem.W.nsIn K mainGlobals n = some (some v) → mg n = some v := fun e => PySem.W.mg_of X G e
  exact ok_law F11 F1 F3 F10 (g ga1) (g ga3) (g ga10) (ok_dice F1 TB) (ok_pick F3 TB F2 (g ga2)) (ok_right F10 F4 F7 F8 F9 (g ga4) (g ga7) (g ga8) (g ga9) (ok_made F4 GG CM) (ok_all F7 F5 F6 (g ga5) (g ga6) TX GG CK) (ok_kept F8 F7 (g ga7) (ok_all F7 F5 F6 (g ga5) (g ga6) TX GG CK) T15 T16 T17 T18 T19 T20)
    (ok_caught F9 F5 (g ga5) TX TR.repr GG CK CM CH T19 T20) TR GG CM) TB TR
end Ow

open PySem PySem.W PyProof.Rows
set_option maxRecDepth 100000 in
set_option maxHeartbeats 0 in
theorem PySem.Challenge.cw_owedround_k01_errors_and_what_they_keep_holds : PySem.Challenge.rw_owedround_k01_errors_and_what_they_keep.Holds := by
  w_on; o_law; k_head; (case hw => w_witness2)
  k_fill
  refine OwX.walk_ofG (l := PySem.Challenge.rw_owedround_k01_errors_and_what_they_keep) (n := 63) (k := 5) (x := "_law_script") (spK := Ow.spLaw) rfl (by decide) rfl ⟨rfl, by decide, by decide⟩ (fun w h Y => PySem.W.kIn_of Y) ?F (fun K H a ns sq => ⟨a, ns, rfl, sq, fun _ => rfl⟩)
  case F =>
    intro w mg fa h KX G hmg
    refine' Ow.all_mk KX G hmg ?a0 ?a1 ?a2 ?a3 ?a4 ?a5 ?a6 ?a7 ?a8 ?a9 ?a10 ?a11 ?a12 ?a13 ?a14 ?a15 ?a16 ?a17 ?a18 ?a19 ?a20 ?b15 ?l15 ?d15 ?b16 ?l16 ?d16 ?b17 ?l17 ?d17 ?b18 ?l18 ?d18 ?b19 ?l19 ?d19 ?b20 ?l20 ?d20 ?ga1 ?gl1 ?gc1 ?gk1 ?ga2 ?gl2 ?gc2 ?gk2 ?ga3 ?gl3 ?gc3 ?gk3 ?ga4 ?gl4 ?gc4 ?gk4 ?ga5 ?gl5 ?gc5 ?gk5 ?ga6 ?gl6 ?gc6 ?gk6 ?ga7 ?gl7 ?gc7 ?gk7 ?ga8 ?gl8 ?gc8 ?gk8 ?ga9 ?gl9 ?gc9 ?gk9 ?ga10 ?gl10 ?gc10 ?gk10 ?ga11 ?gl11 ?gc11 ?gk11 ?z_len ?z_int ?z_max ?z_min ?z_abs ?z_range ?z_repr ?z_isinstance ?z_ValueError ?z_KeyError ?z_IndexError ?z_LookupError ?z_RuntimeError ?z_OverflowError ?z_ArithmeticError ?tab ?x15 ?x16 ?x17 ?x18 ?x19 ?x20
    (case a0 => k_is)
    (case a1 => k_is)
    (case a2 => k_is)
    (case a3 => k_is)
    (case a4 => k_is)
    (case a5 => k_is)
    (case a6 => k_is)
    (case a7 => k_is)
    (case a8 => k_is)
    (case a9 => k_is)
    (case a10 => k_is)
    (case a11 => k_is)
    (case a12 => k_is)
    (case a13 => k_is)
    (case a14 => k_is)
    (case a15 => k_is)
    (case a16 => k_is)
    (case a17 => k_is)
    (case a18 => k_is)
    (case a19 => k_is)
    (case a20 => k_is)
    (case b15 => k_is)
    (case l15 => k_is)
    (case d15 => k_is)
    (case b16 => k_is)
    (case l16 => k_is)
    (case d16 => k_is)
    (case b17 => k_is)
    (case l17 => k_is)
    (case d17 => k_is)
    (case b18 => k_is)
    (case l18 => k_is)
    (case d18 => k_is)
    (case b19 => k_is)
    (case l19 => k_is)
    (case d19 => k_is)
    (case b20 => k_is)
    (case l20 => k_is)
    (case d20 => k_is)
    (case ga1 => k_is)
    (case gl1 => k_is)
    (case gc1 => k_is)
    (case gk1 => k_is)
    (case ga2 => k_is)
    (case gl2 => k_is)
    (case gc2 => k_is)
    (case gk2 => k_is)
    (case ga3 => k_is)
    (case gl3 => k_is)
    (case gc3 => k_is)
    (case gk3 => k_is)
    (case ga4 => k_is)
    (case gl4 => k_is)
    (case gc4 => k_is)
    (case gk4 => k_is)
    (case ga5 => k_is)
    (case gl5 => k_is)
    (case gc5 => k_is)
    (case gk5 => k_is)
    (case ga6 => k_is)
    (case gl6 => k_is)
    (case gc6 => k_is)
    (case gk6 => k_is)
    (case ga7 => k_is)
    (case gl7 => k_is)
    (case gc7 => k_is)
    (case gk7 => k_is)
    (case ga8 => k_is)
    (case gl8 => k_is)
    (case gc8 => k_is)
    (case gk8 => k_is)
    (case ga9 => k_is)
    (case gl9 => k_is)
    (case gc9 => k_is)
    (case gk9 => k_is)
    (case ga10 => k_is)
    (case gl10 => k_is)
    (case gc10 => k_is)
    (case gk10 => k_is)
    (case ga11 => k_is)
    (case gl11 => k_is)
    (case gc11 => k_is)
    (case gk11 => k_is)
    (case z_len => k_is)
    (case z_int => k_is)
    (case z_max => k_is)
    (case z_min => k_is)
    (case z_abs => k_is)
    (case z_range => k_is)
    (case z_repr => k_is)
    (case z_isinstance => k_is)
    (case z_ValueError => k_is)
    (case z_KeyError => k_is)
    (case z_IndexError => k_is)
    (case z_LookupError => k_is)
    (case z_RuntimeError => k_is)
    (case z_OverflowError => k_is)
    (case z_ArithmeticError => k_is)
    (case tab => kernel_rfl)
    (case x15 => kernel_rfl)
    (case x16 => kernel_rfl)
    (case x17 => kernel_rfl)
    (case x18 => kernel_rfl)
    (case x19 => kernel_rfl)
    (case x20 => kernel_rfl)
