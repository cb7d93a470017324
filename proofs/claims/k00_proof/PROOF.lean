import PyProof.Rows.All
import Wide.All
import OpenK.AllK
import Wide.FinOn
import PyProof.ReprNest
import HandS.FStrTup
import KE.KExcSuper
import KE.KExcMake
import HandS.ForExc
import HandS.ExcInit
import HandS.ExcValue
import HandS.HeadWalk
import KE.KExcIs
import HandS.ExcField
import HandS.IsInst
import PySem.Challenge.RW_linearmix_k00_error_classes
import HandS.ForMost
import HandS.Wide
import HandS.Evl
import HandS.FStr
import HandS.Deep
import KE.KIsAll
set_option Elab.async false
set_option linter.all false
set_option maxRecDepth 100000
set_option maxHeartbeats 8000000
set_option exponentiation.threshold 5000
namespace PySem
open PySem.Spec PyProof.Rows
/-- the sign of a value within a tuple: some text of at most n signs, nothing made that lasts -/
def KrB (prog : Program) (w : World) (h : Heap) (d : Nat) (x : Value) (n : Nat) : Prop :=
  ∀ (b : Nat), b + n ≤ sizeLine → ∀ (A : Around) (E : Value → Shared → Prop) (s : Shared) (Q : Str → Shared → Prop), (∀ b o, h.get? b = some o → s.heap.get? b = some o) → A.units + d < cLine →
    (∀ (m : Str) (tk : Tok), m.length ≤ n → Q m { s with toks := tk }) → wpAny (model prog w) A (pyReprUnder b x) Q E s
inductive KrAll (prog : Program) (w : World) (h : Heap) (d : Nat) : List Value → Nat → Prop
  | nil : KrAll prog w h d [] 0
  | cons {x : Value} {n N : Nat} {l : List Value} : KrB prog w h d x n → KrAll prog w h d l N → KrAll prog w h d (x :: l) (n + 2 + N)
section
variable {prog : Program} {w : World} {A : Around} {E : Value → Shared → Prop} {s : Shared} {h : Heap} {d : Nat}
theorem KrB.of_is {x : Value} {t : Str} {n : Nat} (i : ReprIs prog w x t) (hn : t.length ≤ n) : KrB prog w h d x n :=
  fun b hb A E s Q _ _ q => i b (by omega) A E s Q fun tk => q t tk hn
theorem kr_fold : ∀ (l : List Value) (N : Nat) (acc : Array Str) (n : Nat) (A : Around) (s : Shared) (Q : (Array Str × Nat) → Shared → Prop), KrAll prog w h d l N → n + N ≤ sizeLine → (∀ b o, h.get? b = some o → s.heap.get? b = some o) → A.units + d < cLine →
    (∀ (ts : List Str) tk, ts.length = l.length → piled ts ≤ N → Q ⟨acc ++ ts.toArray, n + piled ts⟩ { s with toks := tk }) → wpAny (model prog w) A (forIn l (⟨acc, n⟩ : (Array Str × Nat)) tupBody) Q E s := by
  intro l
  induction l with
  | nil =>
    intro N acc n A s Q hT _ _ _ q
    have h0 := q [] s.toks rfl (Nat.zero_le _)
    simp only [List.forIn_nil]
    exact wpAny_pure (by simpa [piled] using h0)
  | cons x l ih =>
    intro N acc n A s Q hT hn hh hu q
    cases hT with
    | cons hx hl =>
      rename_i n0 N0
      rw [List.forIn_cons]
      refine wpAny_bind (wpAny_bind (hx (n + 1) (by omega) _ _ _ _ hh hu fun t tk ht => wpAny_pure ?_))
      refine ih N0 (acc.push t) (n + (t.length + 2)) A _ Q hl (by omega) hh hu fun ts tk' h1 h2 => ?_
      have h3 := q (t :: ts) tk' (by rw [List.length_cons, List.length_cons, h1]) (by rw [piled_cons]; omega)
      have e : n + piled (t :: ts) = n + (t.length + 2) + piled ts := by rw [piled_cons]; omega
      rw [e] at h3
      simpa using h3
theorem kr_rest {a : Addr} {o : Obj} {items : Array Value} {n b N : Nat} {Q : Fin → Shared → Prop} (hh : ∀ b o, h.get? b = some o → s.heap.get? b = some o) (hu : A.units + d < cLine) (ha : h.get? a = some o) (hd : o.data = .seq items n)
    (hT : KrAll prog w h d items.toList N) (q : ∀ (m : Str) u tk, m.length ≤ N + 2 → Q (.done (.ret (.str m u))) { s with toks := tk }) (hsz : b + N + 2 ≤ sizeLine) :
    wpAny (model prog w) A (tupleReprRest b (.ref a)) Q E s := by
  unfold tupleReprRest Builtin.Tuple.tupleItemsOf
  refine wpAny_bind (wpAny_bind (wpAny_seqItems (hh _ _ ha) hd (wpAny_pure ?_)))
  rw [← Array.forIn_toList]
  refine wpAny_bind (kr_fold _ N _ _ _ _ _ hT (by omega) hh hu fun ts tk hl hp => ?_)
  have hlen : ts.length = items.size := by simpa using hl
  have hx := fmt_text ts
  refine wpAny_bind (wpAny_mkStr (wpAny_pure ?_) ?_)
  · have h1 := q (tupleText ts) tk (tk + 1) (by omega)
    simpa [tupleText, hlen] using h1
  · have h2 : (tupleText ts).length ≤ sizeLine := by omega
    simpa [tupleText, hlen] using h2
theorem KrB.tuple {a : Addr} {o : Obj} {items : Array Value} {n N : Nat} (ha : h.get? a = some o) (hc : o.cls = .type "tuple") (hd : o.data = .seq items n) (hT : KrAll prog w h d items.toList N) :
    KrB prog w h (d + 1) (.ref a) (N + 7) := by
  intro b hb A E s Q hh hu q
  have ht : s.TypeIs (.ref a) "tuple" := ⟨o, hh _ _ ha, hc⟩
  refine wpAny_pyReprUnder_ref (by omega) (wpAny_pyReprObjUnder_twin (twin := "tuple.__repr__.under") ht F.slot_tuple_repr rfl (by omega) ?_)
  refine call_twin_own (F.quiet_tuple_repr_under _) F.entry_tuple_repr_under F.check_tuple_repr_under ht F.slot_tuple_repr (F.args_tuple_repr_1 _) (wpOwn_of_wpAny ?_)
  show wpAny _ _ (Builtin.tupleReprAt b ⟨[.ref a], []⟩) _ _ s
  rw [tuple_repr_tree]
  refine wpAny_bind (fmt_underWay fun u => ?_)
  cases u with
  | true =>
    refine PySem.W.KFB.if_so rfl ?_
    refine wpAny_bind (wpAny_rule ?_)
    refine wpAny_bind (wpAny_mkStr (wpAny_pure ?_) (by decide +kernel))
    exact ⟨⟨_, _, rfl⟩, _, _, rfl, q "(...)" _ (Nat.le_trans fmt_way (Nat.le_add_left _ _))⟩
  | false =>
    refine PySem.W.KFB.if_not rfl ?_
    refine kr_rest (d := d) hh ?_ ha hd hT (fun m u tk hm => ?_) (by omega)
    · rw [units_under_tuple_repr_under]
      omega
    · exact ⟨⟨_, _, rfl⟩, _, _, rfl, q m tk (by omega)⟩
/-- f'{t}', t a tuple: some bounded text -/
theorem kr_format {a : Addr} {o : Obj} {items : Array Value} {n N : Nat} {Q : Value → Shared → Prop} (hk : ∀ b o, h.get? b = some o → s.heap.get? b = some o) (hu : A.units + d + 3 < cLine) (ha : h.get? a = some o) (hc : o.cls = .type "tuple") (hd : o.data = .seq items n) (hT : KrAll prog w h d items.toList N) (hsz : N + 7 ≤ sizeLine)
    (q : ∀ (m : Str) (u tk : Tok), m.length ≤ N + 7 → Q (.str m u) { s with toks := tk }) : wpAny (model prog w) A (formatField (.ref a) Str.empty) Q E s := by
  refine wpAny_formatField_slot (fun _ _ => nofun) (by omega) ⟨o, hk _ _ ha, hc⟩ F.slot_tuple_format F.slot_tuple_str F.slot_tuple_repr ?_
  refine wpAny_call (codeAny_call_builtin_own (Code.quiet_builtin _ (by decide +kernel)) F.entry_tuple_repr (F.slot_tuple_repr.check _ _ _ _ _ _ _ _ ⟨o, hk _ _ ha, hc⟩ (F.args_tuple_repr_1 _) (wpOwn_of_wpAny ?_)))
  show wpAny _ _ (Builtin.tupleReprAt 0 ⟨[.ref a], []⟩) _ _ _
  rw [tuple_repr_tree]
  refine wpAny_bind (fmt_underWay fun u => ?_)
  cases u with
  | true =>
    refine PySem.W.KFB.if_so rfl ?_
    refine wpAny_bind (wpAny_rule ?_)
    refine wpAny_bind (wpAny_mkStr (wpAny_pure ?_) (by decide +kernel))
    exact ⟨_, _, rfl, q "(...)" _ _ (Nat.le_trans fmt_way (Nat.le_add_left _ _))⟩
  | false =>
    refine PySem.W.KFB.if_not rfl ?_
    refine kr_rest (h := h) (d := d) hk ?_ ha hd hT (fun m u tk hm => ?_) (by omega)
    · rw [units_under_tuple_repr]
      show A.units + 1 + 1 + 1 + d < cLine
      omega
    · exact ⟨_, _, rfl, q m u tk (by omega)⟩
end
end PySem
namespace PySem
open PySem.Spec PyProof.Rows
section
variable {prog : Program} {w : World} {A : Around} {E : Value → Shared → Prop} {s : Shared}
theorem kr_join {x y : Str} {n : Nat} (hx : x.length ≤ 200) (hy : y.length ≤ n) (hn : n ≤ 5000) : (x ++ y).length ≤ sizeLine := by
  rw [strLen_append]
  have : sizeLine = 16777216 := rfl
  omega
theorem kr_intLen {n : Int} (h0 : -1 ≤ n) (h1 : n ≤ 20000) : (Str.ofString (toString n)).length ≤ 12 := by
  by_cases h : n = -1
  · subst h
    decide +kernel
  · exact Nat.le_trans (toString_length_le (k := 5) (by omega) (by decide) (by omega)) (by decide)
theorem kr_signs (x : String) : ∀ c ∈ (Str.ofString x).cps.toList, c < 16 ^ 8 := by
  intro c hc
  rw [signs_ofString] at hc
  obtain ⟨a, _, rfl⟩ := List.mem_map.mp hc
  have h := a.valid
  have h2 : a.toNat < 1114112 := by
    rcases h with h | h
    · exact Nat.lt_trans h (by decide)
    · exact h.2
  exact Nat.lt_trans h2 (by decide)
theorem kr_str {h : Heap} {d : Nat} {n : Int} {t : Tok} (h0 : 0 ≤ n) (h1 : n < 10 ^ 9) : KrB prog w h d (.str (Str.ofString (toString n)) t) 102 := by
  have h2 := toString_length_le (k := 9) h0 (by decide) h1
  have h3 := StrLaws.reprText_len (Str.ofString (toString n)) (kr_signs _)
  have h4 : (reprText (Str.ofString (toString n))).length ≤ 102 := by omega
  exact KrB.of_is (ReprIs.str _ t (Nat.le_trans h4 (by decide))) h4
theorem kr_lit {h : Heap} {d : Nat} {x : Str} {t : Tok} (hx : (reprText x).length ≤ 102) : KrB prog w h d (.str x t) 102 := KrB.of_is (ReprIs.str _ t (Nat.le_trans hx (by decide))) hx
theorem kr_log {n : Int} (h0 : -1 ≤ n) (h1 : n ≤ 20000) : n.natAbs.log2 < 1920 := by
  have h : n.natAbs < 2 ^ 20 := by
    have : n.natAbs ≤ 20000 := by omega
    omega
  by_cases hz : n.natAbs = 0
  · rw [hz]
    decide
  · exact Nat.lt_trans ((Nat.log2_lt hz).mpr h) (by decide)
theorem kr_int {h : Heap} {d : Nat} {n : Int} {t : Tok} (h0 : -1 ≤ n) (h1 : n ≤ 20000) : KrB prog w h d (.int n t) 12 :=
  KrB.of_is (ReprIs.int t (kr_log h0 h1)) (kr_intLen h0 h1)
/-- what a value's sign in an f-string is: some text of at most 5,000 signs -/
def Fmt (prog : Program) (w : World) (h : Heap) (v : Value) : Prop :=
  ∀ (A : Around) (E : Value → Shared → Prop) (s : Shared) (Q : Value → Shared → Prop), (∀ b o, h.get? b = some o → s.heap.get? b = some o) → A.units + 8 < cLine →
    (∀ (m : Str) (u tk : Tok), m.length ≤ 5000 → Q (.str m u) { s with toks := tk }) → wpAny (model prog w) A (formatField v Str.empty) Q E s
theorem Fmt.int {h : Heap} {n : Int} {t : Tok} (h0 : -1 ≤ n) (h1 : n ≤ 20000) : Fmt prog w h (.int n t) := fun A E s Q _ _ q =>
  wpAny_formatField_int (kr_log h0 h1) (q _ _ _ (Nat.le_trans (kr_intLen h0 h1) (by decide)))
theorem Fmt.tuple {h : Heap} {a : Addr} {o : Obj} {items : Array Value} {n N : Nat} (ha : h.get? a = some o) (hc : o.cls = .type "tuple") (hd : o.data = .seq items n) (hT : KrAll prog w h 1 items.toList N) (hz : N + 7 ≤ 5000) : Fmt prog w h (.ref a) := fun A E s Q hk hu q =>
  kr_format (d := 1) hk (by omega) ha hc hd hT (Nat.le_trans hz (by decide)) fun m u tk hm => q m u tk (Nat.le_trans hm hz)
end
end PySem
namespace PySem
namespace OwnX
open PySem.W PySem.Calls PyProof.Rows PySem.HandSPX
/-! an own error over MixError(ValueError) whose __init__ says super().__init__(f'..{x}') and keeps x -/
def iA (f : Str) (p1 p2 : Pos) : Arguments := { posonlyargs := [], args := [{ arg := "self", annotation := none, pos := p1 }, { arg := f, annotation := none, pos := p2 }], vararg := none, kwonlyargs := [], kw_defaults := [], kwarg := none, defaults := [] }
def iB (f pre : Str) (q0 q1 q2 q3 q4 q5 q6 q7 q8 q9 qa qb qc : Pos) : List Stmt :=
  [.Expr (.Call (.Attribute (.Call (.Name "super" q0) [] [] q1) "__init__" q2) [.JoinedStr [.Constant (.str pre) 0 q3, .FormattedValue (.Name f q4) (-1) none q5] q6] [] q7) q8,
   .Assign [.Attribute (.Name "self" q9) f qa] (.Name f qb) qc]
def iS (f : Str) : Scope := { kind := .function, names := [("self", .local), (f, .local), ("__class__", .free), ("super", .globalImplicit)], isGenerator := false, isCoroutine := false, more := [] }
def IsFd (f pre qual : Str) (fd : FuncData) : Prop := ∃ kV doc pm an cda ct cc p1 p2 q0 q1 q2 q3 q4 q5 q6 q7 q8 q9 qa qb qc, fd = ksFn "__init__" qual (iA f p1 p2) (iB f pre q0 q1 q2 q3 q4 q5 q6 q7 q8 q9 qa qb qc) (iS f) .none kV doc pm an (.ref cda) ct cc
structure OwnT (prog : Program) (K : Frag) (f pre qual : Str) (C fI : Addr) : Prop where
  cls : ∃ nm q N bs bm sn sub ab col dd k0 k1 k2 k3 k5, K.lookup C = some (excClassObj nm q C N bs bm true sn sub ab col dd k0 k1 k2 k3 k5 "ValueError.__new__") ∧ refsVE bm = true
  sa : findIn K (.ref C) "__setattr__" = some (some (.builtin "object.__setattr__"))
  noN : findIn K (.ref C) f = some none
  iC : findIn K (.ref C) "__init__" = some (some (.ref fI))
  tC : typeIn K (.ref fI) = some (.type "function")
  kC : keepIn K (.ref C) = true
  fn : ∃ (oc : Value) (od : Option Addr) (kV doc pm : Value) (an : Option Addr) (cda : Addr) (ct : Value) (cc : Addr) (osl : Array (Option Value)) (p1 p2 q0 q1 q2 q3 q4 q5 q6 q7 q8 q9 qa qb qc : Pos),
    K.lookup fI = some ⟨oc, od, .func (ksFn "__init__" qual (iA f p1 p2) (iB f pre q0 q1 q2 q3 q4 q5 q6 q7 q8 q9 qa qb qc) (iS f) .none kV doc pm an (.ref cda) ct cc), osl⟩ ∧ codeIn K (.ref cda) qual = true ∧ (q2.endLine == q7.line) = true ∧
    (∃ ccl cdd vs ccs file tf, K.lookup cda = some ⟨ccl, cdd, .fields vs, ccs⟩ ∧ vs[2]? = some (.str file tf) ∧ ((prog.main.file : Str) == file) = true) ∧ (∃ cl cld csl, K.lookup cc = some ⟨cl, cld, .cell (some (.ref C)), csl⟩)
  sup : ks_superIn K C C "__init__" = some (some (.builtin "ValueError.__init__"))
  isB : subIn K (.ref C) (.type "ValueError") = some true
  isC : mroIn K C (.ref C) = some true
  any : nsIn K cStatics "thirdparty.any" = some none
  top : (prog.main.scope.names.lookup ("super" : Str)).isSome = false
  fs : ("self" == f) = false
  fd : (f == ("__debug__" : Str)) = false
  ff : (iS f).names.lookup f = some .local
  ks : (iS f).names.lookup ("super" : Str) = some .globalImplicit
  kc : (iS f).names.lookup ("__class__" : Str) = some .free
  ke : (iS f).names.lookup ("self" : Str) = some .local
  pl : pre.length ≤ 200
  bp : ∀ fd, IsFd f pre qual fd → ∀ (s : Shared) (x : Addr) (v : Value), BindsTo s fd ⟨[.ref x, v], []⟩ [("self", .ref x), (f, v)]
  bk : ∀ fd, IsFd f pre qual fd → ∀ (s : Shared) (x : Addr) (v : Value), BindsTo s fd ⟨[.ref x], [(f, v)]⟩ [("self", .ref x), (f, v)]
  exC : subIn K (.ref C) (.type "BaseException") = some true
  ga : findIn K (.ref C) "__getattribute__" = some (some (.builtin "BaseException.__getattribute__"))
  gg : findIn K (.ref C) "__getattr__" = some none
  hdC : hasDictIn K C = true
/-- what __init__ leaves of a fresh error at x -/
structure InitEnd (h h' : Heap) (x C dx t1 : Addr) (f : Str) (v : Value) : Prop where
  keep : ∀ b o, b ≠ x → h.get? b = some o → h'.get? b = some o
  obj : h'.get? x = some { cls := .ref C, dict := some dx, data := .fields #[.ref t1, .none, .none, .none, .bool false, .none] }
  dbig : h.objs.size ≤ dx
  dne : dx ≠ x
  ns : h'.Ns1 dx (fun y => if y = f then some v else none)
theorem mc_eq {o : Expr} {m : Str} {apos pos : Pos} {args : List Expr} {env : Env} (hf : methodCallForm args.length (backTo pos (starEach args env)) (backToKw pos (keywordEach [] env)) = true) (hl : (apos.endLine == pos.line) = true) :
    eval (.Call (.Attribute o m apos) args [] pos) env = (do
      let ov ← attributeBase o m env (eval o env)
      standAt apos.atName
      let (f, first) ← holding [ov] (getMethod ov m (L2.plainOf o env))
      callWith pos f first (backTo pos (starEach args env)) []) := by
  have e : eval (.Call (.Attribute o m apos) args [] pos) env = (do
      let ov ← attributeBase o m env (eval o env)
      standAt apos.atName
      methodCall o m apos pos env ov (args.length + 0) (backTo pos (starEach args env)) (backToKw pos (keywordEach [] env))) := by with_unfolding_all rfl
  rw [e]
  simp only [L2.mcall_line (n := args.length + 0) hf hl]
  rfl
theorem kept_but {K : Frag} {h h' : Heap} {x : Addr} (X : K.In h) (hx : K.lookup x = none) (k : ∀ b o, b ≠ x → h.get? b = some o → h'.get? b = some o) : K.In h' := fun a o e =>
  k a o (fun z => by rw [z, hx] at e; cases e) (X a o e)
section
variable {prog : Program} {w : World} {A : Around} {E : Value → Shared → Prop} {R : Result → Shared → Prop} {s : Shared} {K : Frag} {mg : Str → Option Value} {f pre qual : Str} {C fI : Addr}
theorem own_init (T : OwnT prog K f pre qual C fI) {x t0 : Addr} {v : Value} {args : Args} {base h0 : Heap} (X : K.In base) (kb : ∀ b o, base.get? b = some o → s.heap.get? b = some o) (bx : base.get? x = none)
    (gl : base.Ns mainGlobals mg) (bl : ∃ mb, base.Ns builtinsNs mb ∧ ∀ y : Str, y ≠ "__name__" → mb y = bootBuiltins y) (hlim : base.NoLimit) (hmg : mg "super" = none)
    (hx : s.heap.get? x = some (excO C t0)) (hF : Fmt prog w h0 v) (k0 : ∀ b o, h0.get? b = some o → s.heap.get? b = some o) (h0x : h0.get? x = none)
    (hbind : ∀ fd : FuncData, IsFd f pre qual fd → BindsTo s fd args [("self", .ref x), (f, v)])
    (hroom : A.depth < recursionLimit) (hu : A.units + 12 < cLine)
    (hq : ∀ h' tk dx t1, InitEnd s.heap h' x C dx t1 f v → R (.ok (.ret .none)) { s with heap := h', toks := tk }) :
    codeAny (model prog w) A (.call (.ref fI) args) R s := by
  obtain ⟨oc, od, kV, doc, pm, an, cda, ct, cc, osl, p1, p2, q0, q1, q2, q3, q4, q5, q6, q7, q8, q9, qa, qb, qc, ho, hcd, hqq, ⟨ccl, cdd, vs, ccs, file, tf, hcode, hvs, hfile⟩, ⟨cl, cld, csl, hcell⟩⟩ := T.fn
  obtain ⟨nm, q, N, bs, bm, sn, sub, ab, col, dd, k0', k1, k2, k3, k5, hC, hbm⟩ := T.cls
  have hcl : clsIn K C = some { name := nm, bases := bs, mro := .ref C :: bm, ns := N, qualname := q, hasDict := true, slotNames := sn, subclasses := sub, abstract := ab, collection := col, hasDel := false } := by unfold clsIn; rw [hC] <;> rfl
  have hff := T.ff
  have bn : ∀ b o, base.get? b = some o → b ≠ x := fun b o e z => by rw [z, bx] at e; cases e
  have hn0 : ∀ b o, h0.get? b = some o → b ≠ x := fun b o e z => by rw [z, h0x] at e; cases e
  refine ks_codeAny_call_defAt (fd := ksFn "__init__" qual (iA f p1 p2) (iB f pre q0 q1 q2 q3 q4 q5 q6 q7 q8 q9 qa qb qc) (iS f) .none kV doc pm an (.ref cda) ct cc) (body := iB f pre q0 q1 q2 q3 q4 q5 q6 q7 q8 q9 qa qb qc) (binds := [("self", .ref x), (f, v)]) hroom (kb _ _ (X _ _ ho)) rfl (hlim.keeps kb) (codeRec_of (X.keeps kb) hcd) rfl (hbind _ ⟨kV, doc, pm, an, cda, ct, cc, p1, p2, q0, q1, q2, q3, q4, q5, q6, q7, q8, q9, qa, qb, qc, rfl⟩) ?_ ?_ (fun h₁ hns hk₁ => ?_) rfl rfl rfl
  · intro y hy
    simp only [iS, ksFn, fnX, List.mem_cons, List.not_mem_nil, or_false] at hy
    rcases hy with rfl | rfl | rfl | rfl <;> exact nofun
  · intro y hy
    simp only [List.mem_cons, List.not_mem_nil, or_false] at hy
    rcases hy with rfl | rfl
    · rfl
    · exact hff
  · have hk1 : ∀ b o, base.get? b = some o → h₁.get? b = some o := fun b o e => hk₁ b o (kb b o e)
    have X₁ : K.In h₁ := X.keeps hk1
    have hx₁ := hk₁ _ _ hx
    have hv1 : ([(("self" : Str), Value.ref x), (f, v)].reverse.lookup f) = some v := by simp [List.lookup]
    have hs1 : ([(("self" : Str), Value.ref x), (f, v)].reverse.lookup ("self" : Str)) = some (.ref x) := by
      show ([(f, v), (("self" : Str), Value.ref x)].lookup ("self" : Str)) = some (.ref x)
      rw [List.lookup_cons, T.fs]
      simp [List.lookup]
    obtain ⟨oD, hD1, hD2⟩ : ∃ oD, h₁.get? C = some oD ∧ ∃ cd, oD.data = .cls cd := ⟨_, X₁ _ _ hC, _, rfl⟩
    obtain ⟨cdD, hD2⟩ := hD2
    have I₁ : InstAt h₁ x (excO C t0) C none := ⟨hx₁, rfl, rfl, trivial⟩
    have hpl : (PySem.Str.empty ++ pre).length ≤ 200 := by
      rw [strLen_append]
      exact Nat.le_trans (Nat.le_of_eq (Nat.zero_add _)) T.pl
    have hLx : s.heap.objs.size ≠ x := Nat.ne_of_gt (Heap.lt_size hx)
    show PySem.wpAt (model prog w) (A.deeper (ksEnv qual (iS f) s.heap.objs.size fI (.ref cda) cc)) (.func _ (ksEnv qual (iS f) s.heap.objs.size fI (.ref cda) cc)) (execs _ (ksEnv qual (iS f) s.heap.objs.size fI (.ref cda) cc)) _ _ _
    obtain ⟨mb, hmb, hmb2⟩ := bl
    refine ks_wpAt_execs_cons (ks_wpAt_Expr_any (ks_wpAt_MethodCall ?_ (mc_eq rfl hqq)) (by first | rfl | with_unfolding_all rfl) (by first | rfl | with_unfolding_all rfl))
    refine ks_wpAt_super_base (env := ksEnv qual (iS f) s.heap.objs.size fI (.ref cda) cc) T.ks T.kc (by decide) rfl (X₁ _ _ ho) rfl rfl rfl (X₁ _ _ hcode) rfl hvs hfile T.top ?_
    refine ks_loadName_global rfl T.ks (loadGlobal_builtin (env := ksEnv qual (iS f) s.heap.objs.size fI (.ref cda) cc) (gl.keeps hk1) hmg (hmb.keeps hk1) ((hmb2 _ (by decide)).trans (by decide +kernel)) ⟨rfl, ?_⟩)
    refine wpAny_loadName_free rfl T.kc rfl ⟨_, X₁ _ _ hcell, rfl⟩ ?_
    refine wpAny_loadName_local rfl T.ke hns hs1 ?_
    refine ks_wpAny_isType_cls hD1 hD2 ⟨rfl, ?_⟩
    refine ks_wpAny_call_super hD1 hD2 I₁.at_ I₁.cls (fun c e => by cases e) (looks_mroIn X₁ T.isC) (fun h2 e2 k2 => ?_)
    -- the super object stands at h₁.size; its __init__
    have X₂ : K.In h2 := X₁.keeps k2
    have hcl2 : clsIn K C = some _ := hcl
    have hx2 := k2 _ _ hx₁
    have I₂ : InstAt h2 x (excO C t0) C none := ⟨hx2, rfl, rfl, trivial⟩
    have hI : Looks (model prog w) h2 (isInstance (.ref x) (.type "ValueError")) true := I₂.type.andThen (looks_subIn X₂ T.isB)
    have hsup := T.sup
    unfold ks_superIn at hsup
    rw [hcl] at hsup
    refine kxs_getMethod kxs_ValueError e2 (looks_opaque X₂ T.any) (l₀ := .ref C :: bm) ?_ rfl X₂ hsup hI (ks_ne X₂ I₂ hcl) (by decide) ?_
    · exact fun A Q E s k q => wpAny_bind ((looks_clsIn X₂ hcl) A _ E s k (wpAny_pure q))
    have hu3 : (h2.push (kxs_mw "ValueError.__init__" x)).get? h2.objs.size = some (kxs_mw "ValueError.__init__" x) := Heap.get?_push_size _ rfl
    have k3 : ∀ b o, h2.get? b = some o → (h2.push (kxs_mw "ValueError.__init__" x)).get? b = some o := fun b o e => Heap.get?_push_of_some _ e
    have hns3 := (hns.keeps k2).keeps k3
    have hx3 := k3 _ _ hx2
    refine kxs_callWith (i := "ValueError.__init__") (x := x) rfl ?_
    refine evalArgs_plain ?_
    show wpAny _ _ (spliced ((false, eval (.JoinedStr _ q6) _) :: backTo q7 (starEach [] _))) _ _ _
    refine Calls.spliced_cons (JoinedStr_many (joinParts_cons (Constant_str ⟨?_, joinParts_cons (FormattedValue_plain ?_)⟩)))
    · exact Nat.le_trans hpl (by decide)
    refine wpAny_Name (wpAny_loadName_local rfl hff hns3 hv1 ?_) T.fd
    refine hF _ _ _ _ (fun b o e => k3 _ _ (k2 _ _ (hk₁ _ _ (k0 _ _ e)))) (by show A.units + _ + 8 < cLine; omega) fun m u tk hm => ?_
    refine ⟨kr_join hpl hm (Nat.le_refl _), joinParts_nil ?_ (kr_join hpl hm (Nat.le_refl _))⟩
    refine Calls.spliced_nil ⟨hu3, ?_⟩
    show wpAny _ _ (call (.ref h2.objs.size) [.str _ _]) _ _ _
    refine wpAny_call (codeAny_of_tree ?_)
    show wpAny _ _ (callAny (.ref h2.objs.size) ⟨[.str _ _], []⟩) _ _ _
    simp only [callAny]
    refine wpAny_bind (wpAny_load hu3 ?_)
    simp only [kxs_mw, show (Value.type "method-wrapper" == Value.type "method" || Value.type "method-wrapper" == Value.type "builtin_function_or_method" || Value.type "method-wrapper" == Value.type "method-wrapper") = true by decide, if_true]
    refine KFB.if_so (by decide) ?_
    have hC3 := X₂ _ _ hC
    refine wpAny_bind (check_bound_init F.excBase_ValueError.toExcCallFacts (k3 _ _ hC3) hx3 rfl ?_)
    refine wpAny_bind (wpAny_pure (wpAny_pure ?_))
    refine ⟨plainId_quiet F.excBase_ValueError.init.plain _, codeAny_builtin F.excBase_ValueError.initEntry ?_⟩
    refine exc_init_tree (cls := .ref C) (t0 := t0) (dv := none) (c2 := .none) (c3 := .none) (b4 := .bool false) hx3 (by exact (by decide : 1 ≤ 16777216)) fun h4 k4 hx4 ht4 => ?_
    -- self.f = f
    obtain ⟨oL, esL, epL, hL, rL⟩ := hns3
    have hns4 : h4.Ns s.heap.objs.size (fun y => [(("self" : Str), Value.ref x), (f, v)].reverse.lookup y) := ⟨oL, esL, epL, k4 _ _ hLx hL, rL⟩
    have X₄ : K.In h4 := kept_but (X₂.keeps k3) (by
      cases e : K.lookup x with
      | none => rfl
      | some o =>
        have z := X _ _ e
        rw [bx] at z
        cases z) k4
    show PySem.wpAt (model prog w) (A.deeper (ksEnv qual (iS f) s.heap.objs.size fI (.ref cda) cc)) (.func _ (ksEnv qual (iS f) s.heap.objs.size fI (.ref cda) cc)) (execs _ (ksEnv qual (iS f) s.heap.objs.size fI (.ref cda) cc)) _ _ _
    refine wpAt_of_wpAny (wpAny_execs_cons (plainObj_wpAny_Assign_Attribute ?_ ?_))
    · refine wpAny_Name (wpAny_loadName_local rfl hff hns4 hv1 ?_) T.fd
      refine wpAny_Name (wpAny_loadName_local rfl T.ke hns4 hs1 ?_) (by decide)
      refine set_plain X₄ (ox := excRec (.ref C) _ none .none .none (.bool false)) (od := none) ⟨hx4, rfl, rfl, trivial⟩ T.sa ?_
      refine exc_osa X₄ hx4 hcl (show refsVE (.ref C :: bm) = true from hbm) rfl T.noN (fun h5 tk5 dx k5 dn dne hx5 hn5 => ?_)
      show wpAny _ _ (execs _ _) _ _ _
      refine wpAny_execs_nil (hq h5 tk5 dx _ ⟨fun b o hb e => k5 b o hb (k4 b o hb (k3 _ _ (k2 _ _ (hk₁ _ _ e)))), hx5, ?_, dne, hn5⟩)
      exact Nat.le_of_lt (Nat.lt_of_lt_of_le (Heap.lt_size (k4 _ _ hLx hL)) dn)
    · first | rfl | with_unfolding_all rfl
end
end OwnX
end PySem
namespace PySem
namespace OwnX
open PySem.W PySem.Calls PyProof.Rows PySem.HandSPX
section
variable {M : Model} {A : Around} {E : Value → Shared → Prop} {h : Heap} {g : Array GenState} {d : Drawn} {t : Nat} {os : OsState}
variable {nm q : Str} {C N : Addr} {bs bm bmB : List Value} {hdct : Bool} {sn : List Str} {sub : List Value} {ab : Bool} {col : Option Bool} {dd : Option Addr} {k0 k1 k2 k3 k5 : Option Value} {B newId initId : String}
theorem check_new_kw (F : ExcBaseFacts B newId initId bmB) (hT : ∀ X : String, bm.contains (.type X) = bmB.contains (.type X)) {rest : List Value} {kw : List (Str × Value)} {Q : Unit → Shared → Prop}
    (hC : h.get? C = some (excClassObj nm q C N bs bm hdct sn sub ab col dd k0 k1 k2 k3 k5 newId)) (hq : Q () ⟨h, g, d, t, os⟩) : wpAny M A (checkBuiltinCall newId ⟨.ref C :: rest, kw⟩) Q E ⟨h, g, d, t, os⟩ := by
  have hcont : (Value.ref C :: bm).contains (.type B) = true := by rw [List.contains_cons, hT, F.hasB, Bool.or_true]
  have hstar := F.noStar
  simp only [checkBuiltinCall, F.newKind, F.newSplit, F.newRow]
  repeat (first | refine wpAny_loadPart_at hC ?_ | (refine wpAny_isSubtype_exc hC ?_; rw [hcont]) | refine wpAny_staticBase_exc hC ?_ | refine wpAny_madeBy_exc hC ?_ | simp only [bne_self_eq_false, Bool.false_eq_true, if_false] | wp_step)
  exact hq
end
section
variable {prog : Program} {w : World} {A : Around} {E : Value → Shared → Prop} {R : Result → Shared → Prop} {h : Heap} {g : Array GenState} {d : Drawn} {t : Nat} {os : OsState}
variable {nm q : Str} {C N : Addr} {bs bm bmB : List Value} {hdct : Bool} {sn : List Str} {sub : List Value} {ab : Bool} {col : Option Bool} {dd : Option Addr} {k0 k1 k2 k3 k5 : Option Value} {B newId initId : String}

theorem new_kw (F : ExcBaseFacts B newId initId bmB) (hT : ∀ X : String, bm.contains (.type X) = bmB.contains (.type X)) {rest : List Value} {kw : List (Str × Value)}
    (hC : h.get? C = some (excClassObj nm q C N bs bm hdct sn sub ab col dd k0 k1 k2 k3 k5 newId))
    (hq : R (.ok (.ret (.ref (h.objs.size + 1)))) ⟨(h.push { cls := .type "tuple", data := .seq rest.toArray }).push
      { cls := .ref C, data := .fields #[.ref h.objs.size, .none, .none, .none, .bool false, .none] }, g, d, t, os⟩) (hrest : rest.length ≤ sizeLine) :
    codeAny (model prog w) A (.builtin newId ⟨.ref C :: rest, kw⟩) R ⟨h, g, d, t, os⟩ := by
  have hends := F.ends
  have hcB : (Value.ref C :: bm).contains (.type B) = true := by rw [List.contains_cons, hT, F.hasB, Bool.or_true]
  have hcA : (Value.ref C :: bm).contains (.type "AttributeError") = false := by rw [List.contains_cons, hT, F.noAttr]; rfl
  have hcN : (Value.ref C :: bm).contains (.type "NameError") = false := by rw [List.contains_cons, hT, F.noName]; rfl
  refine codeAny_builtinAt F.entry ?_
  unfold Builtin.«BaseException.__new__»
  refine wpAt_bind ?_
  show wpAt _ _ _ (stack >>= _) _ _ _
  refine wpAt_bind (wpAt_stack fun p below => wpAt_of_wpAny ?_)
  wp_walk
  refine wpAt_of_wpAny ?_
  rw [F.owner]
  repeat (first | with_reducible refine wpAny_madeHere_exc F.canon hC ?_ | with_reducible refine wpAny_loadPart_at hC ?_ | (with_reducible refine wpAny_isSubtype_exc hC ?_; first | rw [hcB] | rw [hcA] | rw [hcN]) | wp_step)
  show R _ _
  rw [Heap.size_push]
  exact hq

theorem type_call_kw (F : ExcBaseFacts B newId initId bmB) (hT : ∀ X : String, bm.contains (.type X) = bmB.contains (.type X)) {rest : List Value} {kw : List (Str × Value)} {fI : Addr} {Q : Fin → Shared → Prop}
    (hC : h.get? C = some (excClassObj nm q C N bs bm hdct sn sub ab col dd k0 k1 k2 k3 k5 newId))
    (hi : W.Looks (model prog w) h (typeLookup (.ref C) "__init__") (some (.ref fI))) (hb : ∀ self, W.Looks (model prog w) h (bindSpecial (.ref fI) self) (.ref fI, [self])) (hrest : rest.length ≤ sizeLine)
    (hq : codeAny (model prog w) A (.call (.ref fI) ⟨.ref (h.objs.size + 1) :: rest, kw⟩)
      (fun r s' => match r with | .ok (.ret v) => v = .none ∧ Q (.done (.ret (.ref (h.objs.size + 1)))) s' | .ok _ => False | .error e => E e s')
      ⟨(h.push (W.kdv_tup rest)).push (excO C h.objs.size), g, d, t, os⟩) :
    wpAny (model prog w) A (Builtin.«type.__call__» ⟨.ref C :: rest, kw⟩) Q E ⟨h, g, d, t, os⟩ := by
  repeat (first | with_reducible refine wpAny_loadPart_at hC ?_ | with_reducible refine wpAny_madeBy_exc hC ?_ | wp_step)
  refine codeAny_call_builtin_code (Code.quiet_builtin _ F.quiet) (check_new_kw F hT hC ?_)
  refine new_kw F hT hC ?_ hrest
  show wpAny _ _ _ _ _ _
  have k : ∀ b o, h.get? b = some o → ((h.push (W.kdv_tup rest)).push (excO C h.objs.size)).get? b = some o := fun b o e => Heap.get?_push_of_some _ (Heap.get?_push_of_some _ e)
  have hC₁ := k _ _ hC
  have hget : ((h.push (W.kdv_tup rest)).push (excO C h.objs.size)).get? (h.objs.size + 1) = some (excO C h.objs.size) := by heap_get
  have hcC : (Value.ref C :: bm).contains (.ref C) = true := by simp
  have i1 := hi.keeps k
  have b1 := (hb (.ref (h.objs.size + 1))).keeps k
  unfold isInstance
  repeat (first | with_reducible refine wpAny_loadPart_at hget ?_ | (with_reducible refine wpAny_isSubtype_exc hC₁ ?_; rw [hcC]) | wp_step)
  show wpAny _ _ (typeLookup (.ref C) _) _ _ _
  refine i1.at ?_
  refine wpAny_holding (wpAny_bind (b1.at ?_))
  refine wpAny_bind (wpAny_call (codeAny_mono hq fun r s' z => ?_))
  rcases r with e | (v | _ | _ | _) <;> first | exact z | exact z.elim | skip
  obtain ⟨rfl, z⟩ := z
  first
    | exact wpAny_pure (wpAny_pure z)
    | (wp_walk; exact z)
theorem call_kw (F : ExcBaseFacts B newId initId bmB) (hT : ∀ X : String, bm.contains (.type X) = bmB.contains (.type X)) {rest : List Value} {kw : List (Str × Value)} {fI : Addr}
    (hC : h.get? C = some (excClassObj nm q C N bs bm hdct sn sub ab col dd k0 k1 k2 k3 k5 newId))
    (hi : W.Looks (model prog w) h (typeLookup (.ref C) "__init__") (some (.ref fI))) (hb : ∀ self, W.Looks (model prog w) h (bindSpecial (.ref fI) self) (.ref fI, [self])) (hrest : rest.length ≤ sizeLine)
    (hq : codeAny (model prog w) (A.under (.builtin "type.__call__" ⟨.ref C :: rest, kw⟩)) (.call (.ref fI) ⟨.ref (h.objs.size + 1) :: rest, kw⟩) (W.InitBack (h.objs.size + 1) R)
      ⟨(h.push (W.kdv_tup rest)).push (excO C h.objs.size), g, d, t, os⟩) :
    codeAny (model prog w) A (.call (.ref C) ⟨rest, kw⟩) R ⟨h, g, d, t, os⟩ := by
  have f1 := tc_lookup
  have f2 := tc_bind (.ref C)
  have hTy : (⟨h, g, d, t, os⟩ : Shared).TypeIs (.ref C) "type" := ⟨_, hC, rfl⟩
  refine codeAny_of_tree ?_
  show wpAny _ _ (callAny (.ref C) _) _ _ _
  repeat (any_goals (first | assumption | with_reducible refine wpAny_loadPart_at hC ?_ | wp_step))
  refine ⟨rfl, ?_⟩
  refine codeAny_call_builtin_at (Code.quiet_builtin _ (by decide +kernel)) entry_typeCall (wpAny_check_type_call_sub hC (type_call_kw F hT hC hi hb hrest ?_))
  refine codeAny_mono hq fun r s' z => ?_
  rcases r with e | (v | _ | _ | _) <;> exact z
end
end OwnX
end PySem
namespace PySem
namespace OwnX
open PySem.W PySem.Calls PyProof.Rows PySem.HandSPX
/-- a made error -/
structure OwnMade (h h' : Heap) (e C d : Addr) (f : Str) (v : Value) : Prop where
  keep : ∀ b o, h.get? b = some o → h'.get? b = some o
  new : h.objs.size ≤ e
  obj : ∃ t1 : Addr, h'.get? e = some { cls := .ref C, dict := some d, data := .fields #[.ref t1, .none, .none, .none, .bool false, .none] }
  dbig : h.objs.size ≤ d
  dne : d ≠ e
  ns : h'.Ns1 d (fun y => if y = f then some v else none)
section
variable {prog : Program} {w : World} {A : Around} {E : Value → Shared → Prop} {R : Result → Shared → Prop} {s : Shared} {K : Frag} {mg : Str → Option Value} {f pre qual : Str} {C fI : Addr}
theorem own_made (T : OwnT prog K f pre qual C fI) {v : Value} {rest : List Value} {kw : List (Str × Value)} {base : Heap} {k : Nat} (X : K.In base) (kb : ∀ b o, base.get? b = some o → s.heap.get? b = some o)
    (gl : base.Ns mainGlobals mg) (bl : ∃ mb, base.Ns builtinsNs mb ∧ ∀ y : Str, y ≠ "__name__" → mb y = bootBuiltins y) (hlim : base.NoLimit) (hmg : mg "super" = none) (hF : Fmt prog w s.heap v)
    (ha : (rest = [v] ∧ kw = []) ∨ (rest = [] ∧ kw = [(f, v)])) (hr : L2.Room (k + 1) A)
    (hq : ∀ h' tk e d, OwnMade s.heap h' e C d f v → R (.ok (.ret (.ref e))) { s with heap := h', toks := tk }) :
    codeAny (model prog w) A (.call (.ref C) ⟨rest, kw⟩) R s := by
  obtain ⟨nm, q, N, bs, bm, sn, sub, ab, col, dd, k0', k1, k2, k3, k5, hC, hbm⟩ := T.cls
  obtain ⟨hp, g, dr, tk, os⟩ := s
  have hXs : K.In hp := X.keeps kb
  have kp : ∀ b o, hp.get? b = some o → ((hp.push (kdv_tup rest)).push (excO C hp.objs.size)).get? b = some o := fun b o e => Heap.get?_push_of_some _ (Heap.get?_push_of_some _ e)
  have hget : ((hp.push (kdv_tup rest)).push (excO C hp.objs.size)).get? (hp.objs.size + 1) = some (excO C hp.objs.size) := by heap_get
  have none_at : ∀ h : Heap, (∀ b o, h.get? b = some o → hp.get? b = some o) → h.get? (hp.objs.size + 1) = none := fun h kh => by
    cases e : h.get? (hp.objs.size + 1) with
    | none => rfl
    | some o => exact absurd (Nat.lt_of_succ_lt (Heap.lt_size (kh _ _ e))) (Nat.lt_irrefl _)
  have hz : rest.length ≤ sizeLine := by
    rcases ha with ⟨rfl, _⟩ | ⟨rfl, _⟩
    · exact (by decide : 1 ≤ 16777216)
    · exact Nat.zero_le _
  have hr1 := hr.make C rest kw
  refine call_kw F.excBase_ValueError (fun Y => refsVE_contains Y bm hbm) (hXs _ _ hC) (looks_findIn hXs T.iC) (fun self => bind_fn hXs self T.tC) hz ?_
  refine own_init (s := ⟨(hp.push (kdv_tup rest)).push (excO C hp.objs.size), g, dr, tk, os⟩) (base := base) (h0 := hp) T X (fun b o e => kp b o (kb b o e)) (none_at _ kb) gl bl hlim hmg hget hF kp (none_at _ fun _ _ e => e) (fun fd hfd => ?_) hr1.depth (by have := hr1.units; omega) fun h' tk' dx t1 ⟨k', hx, dn, dne, hns⟩ => ?_
  · rcases ha with ⟨rfl, rfl⟩ | ⟨rfl, rfl⟩
    · exact T.bp fd hfd _ _ _
    · exact T.bk fd hfd _ _ _
  · have z : hp.objs.size ≤ dx := by
      have y := dn
      rw [Heap.size_push, Heap.size_push] at y
      omega
    exact ⟨rfl, hq h' tk' (hp.objs.size + 1) dx ⟨fun b o e => k' b o (Nat.ne_of_lt (Nat.lt_succ_of_lt (Heap.lt_size e))) (kp b o e), Nat.le_succ _, ⟨_, hx⟩, z, dne, hns⟩⟩
end
end OwnX
end PySem
namespace L2
open PySem PySem.Spec PyProof.Rows
theorem relO_own {f : Str} {v : V} {v' : Value} (r : RelV v v') (g : Str) : RelO (List.lookup g [(f, v)]) (if g = f then some v' else none) := by
  rw [lookup_put]
  by_cases h : g = f
  · rw [if_pos h, if_pos h]
    exact r
  · rw [if_neg h, if_neg h]
    trivial
theorem xd_exo {e C : Addr} {d : Option Addr} {fs : List (Str × V)} : exo e C d ≠ .xd fs := fun z => by
  have z' : HO.ext _ = HO.xd fs := z
  cases z'
section
variable {X : Cx} {f pre qual : Str} {C fI : Addr}
/-- a value that an f-string tells by some bounded text, whatever its token -/
def FmtV (X : Cx) (v : V) (H : Hp) : Prop := ∀ (pins : List (Addr × Obj)) (σ : St) (s : Shared) (u : Value), Inv X pins σ H s → RelV v u → Fmt X.prog X.w s.heap u
/-- the end of C(..): the error and its dict are tracked -/
theorem own_end {pins : List (Addr × Obj)} {σ : St} {H : Hp} {Q : VK} {hp h' : Heap} {g : Array GenState} {d0 : Drawn} {tk tk' : Nat} {os : OsState} {e d : Addr} {v : V} {v' : Value} (I : Inv X pins σ H ⟨hp, g, d0, tk, os⟩) (rv : RelV v v')
    (M : PySem.OwnX.OwnMade hp h' e C d f v') (q : ∀ a d, H a = none → H d = none → d ≠ a → Q (.ref a) (upd (upd H d (.xd [(f, v)])) a (exo a C (some d)))) :
    EP X pins σ Q (.ref e) ⟨h', g, d0, tk', os⟩ := by
  obtain ⟨t1, hx⟩ := M.obj
  have he : H e = none := I.hok.fresh M.new
  have hd : H d = none := I.hok.fresh M.dbig
  have ne : e ≠ d := Ne.symm M.dne
  -- the dict alone first: the heap without e
  obtain ⟨G, g1, g2⟩ := restrict h' fun b => decide (b ≠ e)
  have gk : ∀ b, b ≠ e → G.get? b = h'.get? b := fun b hb => g1 b (decide_eq_true hb)
  have ge : G.get? e = none := g2 e (by simp)
  have nE : ∀ {b : Addr} {o : Obj}, hp.get? b = some o → b ≠ e := fun {b o} z => Nat.ne_of_lt (Nat.lt_of_lt_of_le (Heap.lt_size z) M.new)
  have I1 : Inv X pins σ (upd H d (.xd [(f, v)])) ⟨G, g, d0, tk, os⟩ := I.laid (t' := tk) (a := d) (o := .xd [(f, v)]) (h' := G) (fun b u z => (gk b (nE z)).trans (M.keep b u z)) M.dbig
    ⟨_, M.ns.at fun o y => (gk d M.dne).trans y, fun g => relO_own rv g⟩
  have I2 : Inv X pins σ (upd (upd H d (.xd [(f, v)])) e (exo e C (some d))) ⟨h', g, d0, tk', os⟩ := I1.laidN (t' := tk') (a := e) (o := exo e C (some d)) (h' := h') (fun b u z => by
      by_cases hb : b = e
      · rw [hb, ge] at z
        cases z
      · exact (gk b hb).symm.trans z) ge (by rw [upd_ne ne]; exact he) (exo_ok hx)
  exact ⟨.ref e, _, I2, rfl, q e d he hd M.dne⟩
/-- C(e): a new error -/
def tOwn (X : Cx) (C : Addr) (f : Str) (te : TE) : TE := fun σ H Q => te σ H fun v H1 => FmtV X v H1 ∧ ∀ a d, H1 a = none → H1 d = none → d ≠ a → Q (.ref a) (upd (upd H1 d (.xd [(f, v)])) a (exo a C (some d)))
theorem pe_own {x : Str} {e : Expr} {te : TE} {p pos : Pos} {k : Nat} (T : PySem.OwnX.OwnT X.prog X.K f pre qual C fI) (hr : Room (k + 1) X.A) (hs : X.mg "super" = none) (gC : X.mg x = some (.ref C)) (hg : Gl X x) (he : PE X e te)
    (hst : starEach [e] X.env = (false, eval e X.env) :: starEach [] X.env := by rfl) (hdb : (x == ("__debug__" : Str)) = false := by decide) (hpl : (backTo pos (starEach [] X.env)).any (·.1) = false := by rfl) :
    PE X (.Call (.Name x p) [e] [] pos) (tOwn X C f te) := by
  refine ⟨fun pins s σ H Q I h => ?_⟩
  refine wpAny_Call_Name_kw (ld_glob I hg gC ?_ hdb)
  refine PySem.W.callWith_K (h₀ := X.base) I.ok.mod.kin T.kC ?_ hst hpl
  rw [hst]
  show wpAny _ _ (spliced ((false, eval e X.env) :: backTo pos (starEach [] X.env))) _ _ s
  refine Calls.spliced_cons (thn (he.run pins s σ H _ I h) fun u s1 ⟨v, H1, I1, r1, hf, q1⟩ => ?_)
  refine Calls.spliced_nil ⟨I1.kIn, ?_⟩
  show wpAny _ _ (call (.ref C) [u]) _ _ _
  have hF := hf pins σ s1 u I1 r1
  obtain ⟨hp, g, d0, tk, os⟩ := s1
  exact wpAny_call (PySem.OwnX.own_made T I1.ok.mod.kin I1.bk I1.ok.mod.glob I1.ok.mod.blt I1.ok.mod.nolimit hs hF (.inl ⟨rfl, rfl⟩) hr fun h' tk' e d M => own_end I1 r1 M q1)
/-- C(f = e): a new error -/
def tOwnK (X : Cx) (C : Addr) (f : Str) (te : TE) : TE := fun σ H Q => tCons te tNil σ H fun vs H1 => ∃ v, vs = [v] ∧ FmtV X v H1 ∧ ∀ a d, H1 a = none → H1 d = none → d ≠ a → Q (.ref a) (upd (upd H1 d (.xd [(f, v)])) a (exo a C (some d)))
theorem pe_ownK {x : Str} {e : Expr} {te : TE} {p pos kp : Pos} {k : Nat} (T : PySem.OwnX.OwnT X.prog X.K f pre qual C fI) (hr : Room (k + 1) X.A) (hs : X.mg "super" = none) (gC : X.mg x = some (.ref C)) (hg : Gl X x) (he : PE X e te)
    (hall : (backToKw pos (keywordEach [⟨some f, e, kp⟩] X.env)).all (·.1.isSome) = true := by rfl) (hks : (backToKw pos (keywordEach [⟨some f, e, kp⟩] X.env)).filterMap (·.1) = [f] := by rfl) (hdb : (x == ("__debug__" : Str)) = false := by decide)
    (hpl : ((backTo pos (starEach [] X.env)).any (·.1) || (backToKw pos (keywordEach [⟨some f, e, kp⟩] X.env)).any (·.1.isNone)) = false := by rfl) :
    PE X (.Call (.Name x p) [] [⟨some f, e, kp⟩] pos) (tOwnK X C f te) := by
  refine ⟨fun pins s σ H Q I h => ?_⟩
  refine wpAny_Call_Name_kw (ld_glob I hg gC ?_ hdb)
  refine PySem.W.callWith_KW0 (h₀ := X.base) I.ok.mod.kin T.kC hall ?_ hpl
  refine thn ((pk_cons he pk_nil).run pos pins s σ H _ I h) fun ws s2 ⟨zs, H2, I2, rz, v, ez, hf, q2⟩ => ⟨I2.kIn, ?_⟩
  rw [hks]
  subst ez
  obtain ⟨u, rfl, rv⟩ : ∃ u, ws = [u] ∧ RelV v u := by
    cases rz with
    | cons r n =>
      cases n
      exact ⟨_, rfl, r⟩
  have hF := hf pins σ s2 u I2 rv
  obtain ⟨hp, g, d0, tk, os⟩ := s2
  exact wpAny_call (PySem.OwnX.own_made T I2.ok.mod.kin I2.bk I2.ok.mod.glob I2.ok.mod.blt I2.ok.mod.nolimit hs hF (.inr ⟨rfl, rfl⟩) hr fun h' tk' e d M => own_end I2 rv M q2)
/-! ### what such an error is asked -/
/-- an error object of the class at C: with no dict, or with its dict -/
def ExI (H : Hp) (a C : Addr) : Prop := H a = some (ExO (.ref C) a) ∨ ∃ d fs, H a = some (exo a C (some d)) ∧ H d = some (.xd fs)
theorem ExI.same {H H' : Hp} {a C : Addr} (h : ExI H a C) (k : ∀ b o, H b = some o → H' b = some o) : ExI H' a C := by
  rcases h with h | ⟨d, fs, h1, h2⟩
  · exact .inl (k _ _ h)
  · exact .inr ⟨d, fs, k _ _ h1, k _ _ h2⟩
/-- what isinstance looks up of the class at C -/
structure XisT (K : PySem.W.Frag) (C : Addr) : Prop where
  cl : (PySem.W.clsIn K C).isSome = true
  ga : PySem.W.findIn K (.ref C) "__getattribute__" = some (some (.builtin "BaseException.__getattribute__"))
  gg : PySem.W.findIn K (.ref C) "__getattr__" = some none
  ex : PySem.W.subIn K (.ref C) (.type "BaseException") = some true
  cc : PySem.W.findIn K (.ref C) "__class__" = some (some (.builtin "object.__class__"))
  ob : PySem.W.mroIn K C (.type "object") = some true
structure XisO (K : PySem.W.Frag) : Prop where
  gt : PySem.W.specialIn K (.builtin "object.__class__") "__get__" = some (some (.builtin "getset_descriptor.__get__"))
  tk : PySem.W.takesIn K (.builtin "object.__class__") = some true
theorem exi_inst {pins : List (Addr × Obj)} {σ : St} {H : Hp} {s : Shared} {a C : Addr} (I : Inv X pins σ H s) (h : ExI H a C) : ∃ ox od, PySem.W.InstAt s.heap a ox C od := by
  rcases h with h | ⟨d, fs, h1, h2⟩
  · obtain ⟨⟨oe, vs, ho, hz, hd, _⟩, _, _⟩ := I.hok a _ h
    refine ⟨oe, none, ho, hz.1, by unfold PySem.W.notCls; rw [hd] <;> rfl, ?_⟩
    rw [hz.2]
    trivial
  · obtain ⟨t1, ho⟩ := exo_at I.hok h1
    have hx : ObjOk X.prog X.w H s.heap d (.xd fs) := I.hok d _ h2
    obtain ⟨mA, ⟨od, _, _, hod, _⟩, _⟩ := hx
    exact ⟨_, some od, ho, rfl, rfl, hod⟩
/-- isinstance(e, T) -/
def rIsx (K : PySem.W.Frag) : List V → Hp → VK → Prop := fun xs H Q => ∃ (a C : Addr) (c : V) (u : Value) (b : Bool), xs = [.ref a, c] ∧ ClsV c u ∧ ExI H a C ∧ XisT K C ∧ PySem.W.kitOne K (.ref C) u = some b ∧ Q (.bl b) H
theorem call_isx (O : XisO X.K) : CallR X (.builtin "isinstance") (rIsx X.K) := by
  intro pins s σ H xs us Q I r h
  obtain ⟨a, C, c, u, b, rfl, k, hx, T, e, q⟩ := h
  obtain ⟨u1, u2, rfl, r1, r2⟩ := vals2 r
  have e2 := k.eq r2
  subst e2
  obtain rfl : u1 = Value.ref a := r1
  obtain ⟨ox, od, J⟩ := exi_inst I hx
  exact PySem.W.kia_one (PySem.W.kitx_exc T.cl T.ga T.gg T.ex T.cc O.gt O.tk T.ob) I.kIn J e (fun z => nomatch z) fun tk => ⟨.bl b, H, I.tok tk, rfl, q⟩
/-- e.f -/
def tFldx (K : PySem.W.Frag) (f : Str) (te : TE) : TE := fun σ H Q => te σ H fun x H1 => ∃ (a C d : Addr) (fs : List (Str × V)) (v : V), x = .ref a ∧ H1 a = some (exo a C (some d)) ∧ H1 d = some (.xd fs) ∧ XfC K C ∧ PySem.W.findIn K (.ref C) f = some none ∧ fs.lookup f = some v ∧ Q v H1
theorem pe_fldx {e : Expr} {te : TE} {pos : Pos} (he : PE X e te) (hb : attributeBase e f X.env (eval e X.env) = eval e X.env := by rfl) : PE X (.Attribute e f pos) (tFldx X.K f te) := by
  refine ⟨fun pins s σ H Q I h => ?_⟩
  refine attr_of hb (thn (he.run pins s σ H _ I h) fun u s1 hh => ?_)
  obtain ⟨x, H1, I1, rx, a, C, d, fs, v, ex, ea, ed, T, hno, l, q⟩ := hh
  subst ex
  obtain rfl : u = Value.ref a := rx
  obtain ⟨t1, ho⟩ := exo_at I1.hok ea
  have hx : ObjOk X.prog X.w H1 s1.heap d (.xd fs) := I1.hok d _ ed
  obtain ⟨mA, hns, hr⟩ := hx
  obtain ⟨od, hod, hl⟩ := lookIn_ns hns
  obtain ⟨u, hu, ru⟩ := RelO.some_of (v := v) (o := mA f) (by rw [← l]; exact hr f)
  have J : PySem.W.InstAt s1.heap a _ C (some od) := ⟨ho, rfl, rfl, hod⟩
  exact HandSPX.exc_get I1.kIn J T.ga T.gg T.exC (PySem.W.findObj_own T.hdC hno rfl (by rw [hl, hu])) (handed_of ru) ⟨v, H1, I1.tok _, ru, q⟩
end
end L2
namespace K0
open PySem PySem.Spec PyProof.Rows L2
def topS (i : Nat) : Stmt := PySem.Challenge.pw_linearmix_k00_error_classes.main.body.getD i (.Pass ⟨0, 0, 0, 0⟩)
abbrev sPool : Stmt := topS 27
abbrev sPick : Stmt := topS 28
abbrev sMarks : Stmt := topS 30
abbrev sFirst : Stmt := topS 31
abbrev sSecond : Stmt := topS 32
abbrev sFields : Stmt := topS 33
abbrev sLaw : Stmt := topS 34
theorem scPool : FnScope ["_law_script", "_law_k", "_law_cell"] ["_law_script", "_law_k"] (defScope sPool) := ⟨rfl, rfl, rfl, by decide +kernel, rfl, by decide +kernel, by decide +kernel⟩
theorem scPick : FnScope ["_law_pool_here", "_law_many", "_law_whole", "_law_stirred"] ["_law_pool_here", "_law_many"] (defScope sPick) := ⟨rfl, rfl, rfl, by decide +kernel, rfl, by decide +kernel, by decide +kernel⟩
/-! ### numbers -/
def B (k : Nat) (x : Int) : Prop := x.natAbs < 2 ^ k
theorem B.of {k : Nat} {x : Int} (h0 : 0 ≤ x) (h : x < 2 ^ k) : B k x := by
  unfold B
  have e : (2 ^ k : Int) = ((2 ^ k : Nat) : Int) := by rw [Int.natCast_pow]; rfl
  rw [e] at h
  omega
theorem B.mono {a b : Nat} {x : Int} (h : B a x) (k : a ≤ b) : B b x := Nat.lt_of_lt_of_le h (Nat.pow_le_pow_right (by decide) k)
theorem B.add {a : Nat} {x y : Int} (hx : B a x) (hy : B a y) : B (a + 1) (x + y) := by
  unfold B at *
  rw [Nat.pow_succ]
  omega
theorem B.mul {a b : Nat} {x y : Int} (hx : B a x) (hy : B b y) : B (a + b) (x * y) := wide_lt hx hy
theorem B.mod {k : Nat} {x m : Int} (h0 : 0 < m) (h : B k m) : B k (x % m) := by
  have h1 := Int.emod_nonneg x (by omega : m ≠ 0)
  have h2 := Int.emod_lt_of_pos x h0
  unfold B at *
  omega
/-- ** of a great base -/
def CPowW (i j : Int) : Prop := 0 ≤ j ∧ (Builtin.Int.intBits i : Int) * j ≤ 2 ^ 27
theorem op_powW {X : Cx} : OpR X (binaryOp .Pow) (rI CPowW fun i j => .int (i ^ j.toNat)) := opI fun _ _ _ _ _ _ _ hc q => pow_int hc.1 hc.2 q
theorem same_upd {H : Hp} {p : Addr} {o : HO} (h : H p = none) : Same H (upd H p o) := fun b x e => by
  rw [upd_ne (ne_of_none e h)]
  exact e
theorem cut_ints (ns : List Int) (lo hi : Option Int) : ∃ ms : List Int, cutV (ns.map V.int) lo hi = ms.map V.int := by
  unfold cutV
  rw [← List.map_drop, ← List.map_take]
  exact ⟨_, rfl⟩
section
variable {P : Program} {w : World} {K : PySem.W.Frag} {mg : Str → Option Value} {base : Heap}
/-! ### _law_pool -/
def spPool (K : PySem.W.Frag) : Sp := fun vs H Q _ => ∃ (a : Addr) (ns : List Int) (k : Int), vs = [.ref a, .int k] ∧ SqL K H a (ns.map V.int) ∧ 0 ≤ k ∧ k ≤ 24 ∧
  ∀ (H' : Hp) (p : Addr) (x y : Int), Same H H' → H p = none → 0 ≤ x → B 2700 x → B 130 y → H' p = some (.lst [.int x, .int y, .int 0]) → Q (.ref p) H'
theorem ok_pool {f : Addr} {fd : FuncData} {k : Nat} (F : Fun K "_law_pool" "_law_pool" sPool f fd) (msum : mg "sum" = none) (mlen : mg "len" = none) (mint : mg "int" = none) (mmax : mg "max" = none) : FnOk P w K mg base CX0 (k + 1) f fd ["_law_script", "_law_k"] (spPool K) := by
  refine F.ok scPool (fun vs H Q E h => ?_) (fun cdv A outer s H vs Q E hr h => ?_)
  · obtain ⟨a, ns, k, rfl, _⟩ := h
    rfl
  · obtain ⟨a, ns, kk, rfl, hS, hk0, hk1, q⟩ := h
    refine ⟨_, pss_cons (ps_set (i := 2) scPool.nd rfl (.inl rfl) (pe_op op_add (pe_op op_mul pe_int (pe_op op_add (pv 1) pe_int)) (pe_callB (cr_sum rfl) (by rfl) msum (by decide +kernel) (pa_cons (pe_slice sl_list (pv 0) po_none (po_some pe_int)) pa_nil))))
      (Evl.pss_cut (ps_if (pt_cmpR op_lt (pv 1) (pe_callB call_len_seq (by rfl) mlen PySem.boot_len (pa_cons (pv 0) pa_nil)) (nomark _)) (pss_one (ps_set (i := 2) scPool.nd rfl (.inl rfl) (pe_ix ix_list (pv 0) (pv 1) (fun _ _ => rfl)))) pss_nil)
      (pss_one (ps_ret (pe_lst (pa_cons (pe_op op_mod (pe_callTy call_int1 (by rfl) mint (by decide +kernel) (pa_cons (pe_callB (call_max2 rfl) (by rfl) mmax (by decide +kernel) (pa_cons pe_int (pa_cons (pe_op op_sub (pv 2) (pe_op op_powW pe_int pe_int)) pa_nil))) pa_nil)) (pe_op op_powW (pe_op op_powW pe_int pe_int) pe_int))
        (pa_cons (pe_op op_mod (pe_callTy call_int1 (by rfl) mint (by decide +kernel) (pa_cons (pe_op op_add (pe_op op_add (pe_op op_mul (pv 2) pe_int) (pe_op op_mul pe_int (pv 1))) pe_int) pa_nil)) (pe_op op_add (pe_op op_powW pe_int pe_int) pe_int)) (pa_cons pe_int pa_nil))))))), ?_⟩
    -- the first cell's sum
    refine ⟨_, rfl, _, _, rfl, rfl, _, _, rfl, rfl, .inl ⟨by decide, by decide⟩, .ref a, rfl, 1, rfl, a, ns.map V.int, rfl, hS, fun c nc => ?_⟩
    have s1 : Same H (upd H c (.lst (cutV (ns.map V.int) none (some 1)))) := same_upd nc
    obtain ⟨ms, hms⟩ := cut_ints ns none (some 1)
    refine ⟨c, ms, rfl, .inl (.inl (by rw [upd_same, hms])), _, _, rfl, rfl, ?_⟩
    refine ⟨fun σ' H' => ∃ z : Int, σ' = [some (.ref a), some (.int kk), some (.int z)] ∧ Same H H', ?_, ?_⟩
    · refine ⟨_, rfl, .ref a, rfl, a, ns.map V.int, rfl, .inl (s1.seq hS), _, _, rfl, rfl, _, rfl, ite2 (fun e => ?_) (fun e => ?_)⟩
      · have hl : kk < ((ns.map V.int).length : Int) := of_decide_eq_true e
        rw [List.length_map] at hl
        obtain ⟨j, rfl⟩ := Int.eq_ofNat_of_zero_le hk0
        have hj : j < ns.length := by omega
        exact ⟨_, rfl, _, rfl, a, ns.map V.int, _, .int ns[j], rfl, rfl, s1.seq hS, at_of rfl (by rw [List.getElem?_map, List.getElem?_eq_getElem hj]; rfl), _, rfl, s1⟩
      · exact ⟨_, rfl, s1⟩
    · rintro σ' H' ⟨z, rfl, s2⟩
      have e1 : (0 : Int) < (10 ^ Int.toNat 50) ^ Int.toNat 16 := by decide +kernel
      have e2 : (0 : Int) < 10 ^ Int.toNat 37 + 43 := by decide +kernel
      refine ⟨_, rfl, _, _, rfl, rfl, ⟨by decide, by decide +kernel⟩, _, _, rfl, rfl, _, _, rfl, .inl ⟨_, rfl, _, _, rfl, rfl, ⟨by decide, by decide +kernel⟩, _, _, rfl, rfl, ⟨by decide, by decide +kernel⟩, _, _, rfl, rfl, e1, ?_⟩⟩
      refine ⟨_, rfl, _, _, rfl, rfl, .inr ⟨by decide, by decide⟩, _, rfl, _, _, rfl, rfl, .inl ⟨by decide, by decide⟩, _, _, rfl, rfl, _, _, rfl, rfl, .inl ⟨_, rfl, _, _, rfl, rfl, ⟨by decide, by decide +kernel⟩, _, _, rfl, rfl, _, _, rfl, rfl, e2, ?_⟩⟩
      refine ⟨by show 3 ≤ sizeLine; decide, fun p np => ?_⟩
      refine q _ p _ _ (s2.trans (same_upd np)) (s2.free np) (Int.emod_nonneg _ (by omega)) (B.mod e1 ?_) (B.mod e2 ?_) upd_same
      · unfold B
        decide +kernel
      · unfold B
        decide +kernel
end
end K0
namespace K0
open PySem PySem.Spec PyProof.Rows L2
section
variable {P : Program} {w : World} {K : PySem.W.Frag} {mg : Str → Option Value} {base : Heap}
def spPick : Sp := fun vs H Q _ => ∃ (p : Addr) (m x y c : Int), vs = [.ref p, .int m] ∧ 0 < m ∧ m ≤ 1000000000 ∧ H p = some (.lst [.int x, .int y, .int c]) ∧ 0 ≤ x ∧ B 2700 x ∧ B 130 y ∧ 0 ≤ c ∧ c ≤ 100 ∧
  ∀ r x' : Int, 0 ≤ r → r < m → 0 ≤ x' → B 2700 x' → Q (.int r) (upd H p (.lst [.int x', .int y, .int (c + 1)]))
theorem ok_pick {f : Addr} {fd : FuncData} {k : Nat} (F : Fun K "_law_pick" "_law_pick" sPick f fd) (mint : mg "int" = none) : FnOk P w K mg base CX0 (k + 1) f fd ["_law_pool_here", "_law_many"] spPick := by
  refine F.ok scPick (fun vs H Q E h => ?_) (fun cdv A outer s H vs Q E hr h => ?_)
  · obtain ⟨p, m, x, y, c, rfl, _⟩ := h
    rfl
  · obtain ⟨p, m, x, y, c, rfl, hm0, hm1, hp, hx0, hxB, hyB, hc0, hc1, q⟩ := h
    refine ⟨_, pss_cons (ps_asg (pe_op op_add (pe_ix ix_list (pv 0) pe_int (fun _ _ => rfl)) pe_int) (pg_sub (pv 0) pe_int set_list))
      (pss_cons (ps_if (pt_cmpR op_gt (pe_ix ix_list (pv 0) pe_int (fun _ _ => rfl)) pe_int (nomark _)) (pss_one (ps_ret pe_int)) pss_nil)
      (pss_cons (ps_if (pt_cmpR op_gt (pe_ix ix_list (pv 0) pe_int (fun _ _ => rfl)) pe_int (nomark _))
        (pss_cons (ps_set (i := 2) scPick.nd rfl (.inl rfl) (pe_ix ix_list (pv 0) pe_int (fun _ _ => rfl)))
        (pss_cons (ps_asg (pe_op op_fdiv (pv 2) (pv 1)) (pg_sub (pv 0) pe_int set_list))
        (pss_one (ps_ret (pe_op op_mod (pe_callTy call_int1 (by rfl) mint (by decide +kernel) (pa_cons (pv 2) pa_nil)) (pv 1)))))) pss_nil)
      (pss_cons (ps_set (i := 3) scPick.nd rfl (.inl rfl) (pe_op op_add (pe_ix ix_list (pv 0) pe_int (fun _ _ => rfl)) (pe_op op_mul pe_int (pe_ix ix_list (pv 0) pe_int (fun _ _ => rfl)))))
      (pss_cons (ps_set (i := 3) scPick.nd rfl (.inl rfl) (pe_op op_mod (pe_callTy call_int1 (by rfl) mint (by decide +kernel) (pa_cons (pe_op op_add (pe_op op_mulW (pe_op op_mulW (pv 3) (pv 3)) (pv 3)) (pe_op op_mul pe_int (pe_ix ix_list (pv 0) pe_int (fun _ _ => rfl)))) pa_nil)) (pe_op op_add (pe_op op_powW pe_int pe_int) pe_int)))
      (pss_cons (ps_set (i := 3) scPick.nd rfl (.inl rfl) (pe_op op_mod (pe_callTy call_int1 (by rfl) mint (by decide +kernel) (pa_cons (pe_op op_add (pe_op op_mulW (pv 3) (pv 3)) pe_int) pa_nil)) (pe_op op_add (pe_op op_powW pe_int pe_int) pe_int)))
      (pss_one (ps_ret (pe_op op_mod (pe_callTy call_int1 (by rfl) mint (by decide +kernel) (pa_cons (pe_op op_fdivW (pv 3) (pe_op op_powW pe_int pe_int)) pa_nil)) (pv 1))))))))), ?_⟩
    have hS : ∀ {H : Hp} {a b c : Int}, H p = some (.lst [.int a, .int b, .int c]) → SqL K H p [.int a, .int b, .int c] := fun h => .inl (.inl h)
    -- pool[2] = pool[2] + 1
    refine ⟨_, rfl, p, _, 2, .int c, rfl, rfl, hS hp, rfl, _, _, rfl, rfl, _, rfl, p, _, 2, 2, rfl, rfl, hp, rfl, ?_⟩
    have h1 : upd H p (.lst [.int x, .int y, .int (c + 1)]) p = some (.lst [.int x, .int y, .int (c + 1)]) := upd_same
    -- if pool[2] > 2500
    refine ⟨_, rfl, p, _, 2, .int (c + 1), rfl, rfl, hS h1, rfl, _, _, rfl, rfl, _, rfl, ite2 (fun e => ?_) (fun _ => ?_)⟩
    · have e' := of_decide_eq_true e
      omega
    -- if pool[0] > 0
    refine ⟨_, rfl, p, _, 0, .int x, rfl, rfl, hS h1, rfl, _, _, rfl, rfl, _, rfl, ite2 (fun e => ?_) (fun _ => ?_)⟩
    · refine ⟨_, rfl, p, _, 0, .int x, rfl, rfl, hS h1, rfl, ?_⟩
      refine ⟨_, rfl, _, rfl, _, _, rfl, rfl, ⟨hm0, by omega⟩, _, rfl, p, _, 0, 0, rfl, rfl, h1, rfl, ?_⟩
      refine ⟨_, rfl, .inl ⟨_, rfl, _, rfl, _, _, rfl, rfl, hm0, ?_⟩⟩
      have hd0 : 0 ≤ x / m := Int.ediv_nonneg hx0 (by omega)
      have hd1 : x / m ≤ x := Int.ediv_le_self _ hx0
      have := q (x % m) (x / m) (Int.emod_nonneg _ (by omega)) (Int.emod_lt_of_pos _ hm0) hd0 (by unfold B at *; omega)
      rw [upd_upd]
      exact this
    · have e1 : (0 : Int) < 10 ^ Int.toNat 41 + 271 := by decide +kernel
      have e2 : (0 : Int) < 10 ^ Int.toNat 39 + 3 := by decide +kernel
      have e3 : (0 : Int) < 10 ^ Int.toNat 11 := by decide +kernel
      have b1 : B 160 (10 ^ Int.toNat 41 + 271) := by unfold B; decide +kernel
      have b2 : B 160 (10 ^ Int.toNat 39 + 3) := by unfold B; decide +kernel
      have hcB : B 40 (7368787 * (c + 1)) := by unfold B; omega
      have s3 : B 131 (y + 7368787 * (c + 1)) := hyB.add (hcB.mono (by decide))
      refine ⟨_, rfl, p, _, 1, .int y, rfl, rfl, hS h1, rfl, _, rfl, p, _, 2, .int (c + 1), rfl, rfl, hS h1, rfl, _, _, rfl, rfl, .inl ⟨by decide, by decide⟩, _, _, rfl, rfl, ?_⟩
      refine ⟨_, rfl, _, rfl, _, _, rfl, rfl, wide_mul s3 s3 (by decide) (by decide) (by decide), _, rfl, _, _, rfl, rfl, wide_mul (s3.mul s3) s3 (by decide) (by decide) (by decide), _, rfl, p, _, 2, .int (c + 1), rfl, rfl, hS h1, rfl, _, _, rfl, rfl, .inl ⟨by decide, by decide⟩, _, _, rfl, rfl, .inl ⟨_, rfl, _, _, rfl, rfl, ⟨by decide, by decide +kernel⟩, _, _, rfl, rfl, _, _, rfl, rfl, e1, ?_⟩⟩
      have z1 : ∀ t : Int, B 160 (t % (10 ^ Int.toNat 41 + 271)) := fun t => B.mod e1 b1
      refine ⟨_, rfl, _, rfl, _, _, rfl, rfl, wide_mul (z1 _) (z1 _) (by decide) (by decide) (by decide), _, _, rfl, rfl, .inl ⟨_, rfl, _, _, rfl, rfl, ⟨by decide, by decide +kernel⟩, _, _, rfl, rfl, _, _, rfl, rfl, e2, ?_⟩⟩
      refine ⟨_, rfl, _, _, rfl, rfl, ⟨by decide, by decide +kernel⟩, _, _, rfl, rfl, wide_div (b := 60) e3 (by decide +kernel) (by decide) (by decide), .inl ⟨_, rfl, _, rfl, _, _, rfl, rfl, hm0, ?_⟩⟩
      exact q _ x (Int.emod_nonneg _ (by omega)) (Int.emod_lt_of_pos _ hm0) hx0 hxB
end
end K0
namespace K0
open PySem PySem.Spec PyProof.Rows L2
theorem scMarks : FnScope ["_law_e", "_law_one", "_law_two", "_law_third", "_law_more"] ["_law_e"] (defScope sMarks) := ⟨rfl, rfl, rfl, by decide +kernel, rfl, by decide +kernel, by decide +kernel⟩
/-- the names of the errors, in their sequence -/
def cn : List Str := ["BadForm", "BadText", "NoName", "BadName", "Clash", "BadOrder", "BadClass", "BadParts", "NoMember", "NotAbove", "NotLetBy", "BadProgram", "BadKind", "BadPlace", "BadPath", "NoParameter", "BadPatterns", "BadCount", "BadCore", "TooMany", "NothingToUndo", "Full", "BadNumber", "BadCommand"]
/-- what the top has written of the classes: L theirs, M MixError's -/
structure Txt (K : PySem.W.Frag) (mg : Str → Option Value) (L : List Addr) (M : Addr) : Prop where
  g : ∀ i, i < 24 → mg (cn.getD i "") = some (.ref (L.getD i 0))
  gM : mg "MixError" = some (.ref M)
  m : ∀ i j, i < 24 → j < 24 → PySem.W.kitOne K (.ref (L.getD i 0)) (.ref (L.getD j 0)) = some (decide (i = j))
  mb : ∀ j, j < 24 → PySem.W.kitOne K (.ref M) (.ref (L.getD j 0)) = some false
  mm : ∀ i, i < 24 → PySem.W.kitOne K (.ref (L.getD i 0)) (.ref M) = some true
  mv : ∀ i, i < 24 → PySem.W.kitOne K (.ref (L.getD i 0)) (.type "ValueError") = some true
  bv : PySem.W.kitOne K (.ref M) (.type "ValueError") = some true
  x : ∀ i, i < 24 → XisT K (L.getD i 0)
  xM : XisT K M
  o : XisO K
section
variable {P : Program} {w : World} {K : PySem.W.Frag} {mg : Str → Option Value} {base : Heap} {L : List Addr} {M : Addr}
def spMarks (K : PySem.W.Frag) (L : List Addr) : Sp := fun vs H Q _ => ∃ (a C : Addr) (b : Nat → Bool), vs = [.ref a] ∧ ExI H a C ∧ XisT K C ∧ (∀ j, j < 24 → PySem.W.kitOne K (.ref C) (.ref (L.getD j 0)) = some (b j)) ∧
  ∀ (H' : Hp) (p : Addr), Same H H' → H p = none → H' p = some (.lst ((List.range 24).map fun j => V.bl (b j))) → Q (.ref p) H'
theorem ok_marks {f : Addr} {fd : FuncData} {k : Nat} (F : Fun K "_law_marks" "_law_marks" sMarks f fd) (T : Txt K mg L M) (mi : mg "isinstance" = none) : FnOk P w K mg base CX0 (k + 1) f fd ["_law_e"] (spMarks K L) := by
  refine F.ok scMarks (fun vs H Q E h => ?_) (fun cdv A outer s H vs Q E hr h => ?_)
  · obtain ⟨a, C, b, rfl, _⟩ := h
    rfl
  · obtain ⟨a, C, b, rfl, hE, hX, hK, q⟩ := h
    refine ⟨_, pss_cons (ps_set (i := 1) scMarks.nd rfl (.inl rfl) (pe_lst (pa_cons (pe_callB (call_isx T.o) (by rfl) mi (by decide +kernel) (pa_cons (pv 0) (pa_cons (pe_glob (v := V.ref (L.getD 0 0)) (by rfl) (T.g 0 (by decide)) rfl) pa_nil))) (pa_cons (pe_callB (call_isx T.o) (by rfl) mi (by decide +kernel) (pa_cons (pv 0) (pa_cons (pe_glob (v := V.ref (L.getD 1 0)) (by rfl) (T.g 1 (by decide)) rfl) pa_nil))) (pa_cons (pe_callB (call_isx T.o) (by rfl) mi (by decide +kernel) (pa_cons (pv 0) (pa_cons (pe_glob (v := V.ref (L.getD 2 0)) (by rfl) (T.g 2 (by decide)) rfl) pa_nil))) (pa_cons (pe_callB (call_isx T.o) (by rfl) mi (by decide +kernel) (pa_cons (pv 0) (pa_cons (pe_glob (v := V.ref (L.getD 3 0)) (by rfl) (T.g 3 (by decide)) rfl) pa_nil))) (pa_cons (pe_callB (call_isx T.o) (by rfl) mi (by decide +kernel) (pa_cons (pv 0) (pa_cons (pe_glob (v := V.ref (L.getD 4 0)) (by rfl) (T.g 4 (by decide)) rfl) pa_nil))) pa_nil)))))))
      (pss_cons (ps_set (i := 2) scMarks.nd rfl (.inl rfl) (pe_lst (pa_cons (pe_callB (call_isx T.o) (by rfl) mi (by decide +kernel) (pa_cons (pv 0) (pa_cons (pe_glob (v := V.ref (L.getD 5 0)) (by rfl) (T.g 5 (by decide)) rfl) pa_nil))) (pa_cons (pe_callB (call_isx T.o) (by rfl) mi (by decide +kernel) (pa_cons (pv 0) (pa_cons (pe_glob (v := V.ref (L.getD 6 0)) (by rfl) (T.g 6 (by decide)) rfl) pa_nil))) (pa_cons (pe_callB (call_isx T.o) (by rfl) mi (by decide +kernel) (pa_cons (pv 0) (pa_cons (pe_glob (v := V.ref (L.getD 7 0)) (by rfl) (T.g 7 (by decide)) rfl) pa_nil))) (pa_cons (pe_callB (call_isx T.o) (by rfl) mi (by decide +kernel) (pa_cons (pv 0) (pa_cons (pe_glob (v := V.ref (L.getD 8 0)) (by rfl) (T.g 8 (by decide)) rfl) pa_nil))) (pa_cons (pe_callB (call_isx T.o) (by rfl) mi (by decide +kernel) (pa_cons (pv 0) (pa_cons (pe_glob (v := V.ref (L.getD 9 0)) (by rfl) (T.g 9 (by decide)) rfl) pa_nil))) pa_nil)))))))
      (pss_cons (ps_set (i := 3) scMarks.nd rfl (.inl rfl) (pe_lst (pa_cons (pe_callB (call_isx T.o) (by rfl) mi (by decide +kernel) (pa_cons (pv 0) (pa_cons (pe_glob (v := V.ref (L.getD 10 0)) (by rfl) (T.g 10 (by decide)) rfl) pa_nil))) (pa_cons (pe_callB (call_isx T.o) (by rfl) mi (by decide +kernel) (pa_cons (pv 0) (pa_cons (pe_glob (v := V.ref (L.getD 11 0)) (by rfl) (T.g 11 (by decide)) rfl) pa_nil))) (pa_cons (pe_callB (call_isx T.o) (by rfl) mi (by decide +kernel) (pa_cons (pv 0) (pa_cons (pe_glob (v := V.ref (L.getD 12 0)) (by rfl) (T.g 12 (by decide)) rfl) pa_nil))) (pa_cons (pe_callB (call_isx T.o) (by rfl) mi (by decide +kernel) (pa_cons (pv 0) (pa_cons (pe_glob (v := V.ref (L.getD 13 0)) (by rfl) (T.g 13 (by decide)) rfl) pa_nil))) (pa_cons (pe_callB (call_isx T.o) (by rfl) mi (by decide +kernel) (pa_cons (pv 0) (pa_cons (pe_glob (v := V.ref (L.getD 14 0)) (by rfl) (T.g 14 (by decide)) rfl) pa_nil))) pa_nil)))))))
      (pss_cons (ps_set (i := 4) scMarks.nd rfl (.inl rfl) (pe_lst (pa_cons (pe_callB (call_isx T.o) (by rfl) mi (by decide +kernel) (pa_cons (pv 0) (pa_cons (pe_glob (v := V.ref (L.getD 15 0)) (by rfl) (T.g 15 (by decide)) rfl) pa_nil))) (pa_cons (pe_callB (call_isx T.o) (by rfl) mi (by decide +kernel) (pa_cons (pv 0) (pa_cons (pe_glob (v := V.ref (L.getD 16 0)) (by rfl) (T.g 16 (by decide)) rfl) pa_nil))) (pa_cons (pe_callB (call_isx T.o) (by rfl) mi (by decide +kernel) (pa_cons (pv 0) (pa_cons (pe_glob (v := V.ref (L.getD 17 0)) (by rfl) (T.g 17 (by decide)) rfl) pa_nil))) (pa_cons (pe_callB (call_isx T.o) (by rfl) mi (by decide +kernel) (pa_cons (pv 0) (pa_cons (pe_glob (v := V.ref (L.getD 18 0)) (by rfl) (T.g 18 (by decide)) rfl) pa_nil))) (pa_cons (pe_callB (call_isx T.o) (by rfl) mi (by decide +kernel) (pa_cons (pv 0) (pa_cons (pe_glob (v := V.ref (L.getD 19 0)) (by rfl) (T.g 19 (by decide)) rfl) pa_nil))) pa_nil)))))))
      (pss_one (ps_ret (pe_op op_cat (pe_op op_cat (pe_op op_cat (pe_op op_cat (pv 1) (pv 2)) (pv 3)) (pv 4)) (pe_lst (pa_cons (pe_callB (call_isx T.o) (by rfl) mi (by decide +kernel) (pa_cons (pv 0) (pa_cons (pe_glob (v := V.ref (L.getD 20 0)) (by rfl) (T.g 20 (by decide)) rfl) pa_nil))) (pa_cons (pe_callB (call_isx T.o) (by rfl) mi (by decide +kernel) (pa_cons (pv 0) (pa_cons (pe_glob (v := V.ref (L.getD 21 0)) (by rfl) (T.g 21 (by decide)) rfl) pa_nil))) (pa_cons (pe_callB (call_isx T.o) (by rfl) mi (by decide +kernel) (pa_cons (pv 0) (pa_cons (pe_glob (v := V.ref (L.getD 22 0)) (by rfl) (T.g 22 (by decide)) rfl) pa_nil))) (pa_cons (pe_callB (call_isx T.o) (by rfl) mi (by decide +kernel) (pa_cons (pv 0) (pa_cons (pe_glob (v := V.ref (L.getD 23 0)) (by rfl) (T.g 23 (by decide)) rfl) pa_nil))) pa_nil))))))))))), ?_⟩
    refine ⟨_, rfl, a, C, _, _, _, rfl, .own _, hE, hX, hK 0 (by decide), _, rfl, a, C, _, _, _, rfl, .own _, hE, hX, hK 1 (by decide), _, rfl, a, C, _, _, _, rfl, .own _, hE, hX, hK 2 (by decide), _, rfl, a, C, _, _, _, rfl, .own _, hE, hX, hK 3 (by decide), _, rfl, a, C, _, _, _, rfl, .own _, hE, hX, hK 4 (by decide), by show 5 ≤ sizeLine; decide, fun p1 n1 => ?_⟩
    have s1 := same_upd (o := .lst [V.bl (b 0), V.bl (b 1), V.bl (b 2), V.bl (b 3), V.bl (b 4)]) n1
    have e1 := upd_same (a := p1) (o := .lst [V.bl (b 0), V.bl (b 1), V.bl (b 2), V.bl (b 3), V.bl (b 4)]) (H := H)
    have hE1 := hE.same s1
    refine ⟨_, rfl, a, C, _, _, _, rfl, .own _, hE1, hX, hK 5 (by decide), _, rfl, a, C, _, _, _, rfl, .own _, hE1, hX, hK 6 (by decide), _, rfl, a, C, _, _, _, rfl, .own _, hE1, hX, hK 7 (by decide), _, rfl, a, C, _, _, _, rfl, .own _, hE1, hX, hK 8 (by decide), _, rfl, a, C, _, _, _, rfl, .own _, hE1, hX, hK 9 (by decide), by show 5 ≤ sizeLine; decide, fun p2 n2 => ?_⟩
    have s2 := same_upd (o := .lst [V.bl (b 5), V.bl (b 6), V.bl (b 7), V.bl (b 8), V.bl (b 9)]) n2
    have e2 := upd_same (a := p2) (o := .lst [V.bl (b 5), V.bl (b 6), V.bl (b 7), V.bl (b 8), V.bl (b 9)]) (H := (upd H p1 (.lst [V.bl (b 0), V.bl (b 1), V.bl (b 2), V.bl (b 3), V.bl (b 4)])))
    have hE2 := hE1.same s2
    refine ⟨_, rfl, a, C, _, _, _, rfl, .own _, hE2, hX, hK 10 (by decide), _, rfl, a, C, _, _, _, rfl, .own _, hE2, hX, hK 11 (by decide), _, rfl, a, C, _, _, _, rfl, .own _, hE2, hX, hK 12 (by decide), _, rfl, a, C, _, _, _, rfl, .own _, hE2, hX, hK 13 (by decide), _, rfl, a, C, _, _, _, rfl, .own _, hE2, hX, hK 14 (by decide), by show 5 ≤ sizeLine; decide, fun p3 n3 => ?_⟩
    have s3 := same_upd (o := .lst [V.bl (b 10), V.bl (b 11), V.bl (b 12), V.bl (b 13), V.bl (b 14)]) n3
    have e3 := upd_same (a := p3) (o := .lst [V.bl (b 10), V.bl (b 11), V.bl (b 12), V.bl (b 13), V.bl (b 14)]) (H := (upd (upd H p1 (.lst [V.bl (b 0), V.bl (b 1), V.bl (b 2), V.bl (b 3), V.bl (b 4)])) p2 (.lst [V.bl (b 5), V.bl (b 6), V.bl (b 7), V.bl (b 8), V.bl (b 9)])))
    have hE3 := hE2.same s3
    refine ⟨_, rfl, a, C, _, _, _, rfl, .own _, hE3, hX, hK 15 (by decide), _, rfl, a, C, _, _, _, rfl, .own _, hE3, hX, hK 16 (by decide), _, rfl, a, C, _, _, _, rfl, .own _, hE3, hX, hK 17 (by decide), _, rfl, a, C, _, _, _, rfl, .own _, hE3, hX, hK 18 (by decide), _, rfl, a, C, _, _, _, rfl, .own _, hE3, hX, hK 19 (by decide), by show 5 ≤ sizeLine; decide, fun p4 n4 => ?_⟩
    have s4 := same_upd (o := .lst [V.bl (b 15), V.bl (b 16), V.bl (b 17), V.bl (b 18), V.bl (b 19)]) n4
    have e4 := upd_same (a := p4) (o := .lst [V.bl (b 15), V.bl (b 16), V.bl (b 17), V.bl (b 18), V.bl (b 19)]) (H := (upd (upd (upd H p1 (.lst [V.bl (b 0), V.bl (b 1), V.bl (b 2), V.bl (b 3), V.bl (b 4)])) p2 (.lst [V.bl (b 5), V.bl (b 6), V.bl (b 7), V.bl (b 8), V.bl (b 9)])) p3 (.lst [V.bl (b 10), V.bl (b 11), V.bl (b 12), V.bl (b 13), V.bl (b 14)])))
    have hE4 := hE3.same s4
    have t14 := s2.trans (s3.trans s4)
    have z1 := t14 _ _ e1
    have z2 := (s3.trans s4) _ _ e2
    have z3 := s4 _ _ e3
    refine ⟨_, rfl, _, rfl, p1, p2, _, _, rfl, rfl, z1, z2, by show 10 ≤ sizeLine; decide, fun c1 m1 => ?_⟩
    refine ⟨_, rfl, c1, p3, _, _, rfl, rfl, upd_same, (same_upd m1) _ _ z3, by show 15 ≤ sizeLine; decide, fun c2 m2 => ?_⟩
    refine ⟨_, rfl, c2, p4, _, _, rfl, rfl, upd_same, (same_upd m2) _ _ ((same_upd m1) _ _ e4), by show 20 ≤ sizeLine; decide, fun c3 m3 => ?_⟩
    refine ⟨_, rfl, a, C, _, _, _, rfl, .own _, hE4.same ((same_upd m1).trans ((same_upd m2).trans (same_upd m3))), hX, hK 20 (by decide), _, rfl, a, C, _, _, _, rfl, .own _, hE4.same ((same_upd m1).trans ((same_upd m2).trans (same_upd m3))), hX, hK 21 (by decide), _, rfl, a, C, _, _, _, rfl, .own _, hE4.same ((same_upd m1).trans ((same_upd m2).trans (same_upd m3))), hX, hK 22 (by decide), _, rfl, a, C, _, _, _, rfl, .own _, hE4.same ((same_upd m1).trans ((same_upd m2).trans (same_upd m3))), hX, hK 23 (by decide), by show 4 ≤ sizeLine; decide, fun p5 n5 => ?_⟩
    refine ⟨c3, p5, _, _, rfl, rfl, (same_upd n5) _ _ upd_same, upd_same, by show 24 ≤ sizeLine; decide, fun c4 m4 => ?_⟩
    exact q _ c4 (s1.trans (t14.trans ((same_upd m1).trans ((same_upd m2).trans ((same_upd m3).trans ((same_upd n5).trans (same_upd m4))))))) (Same.free (s1.trans (t14.trans ((same_upd m1).trans ((same_upd m2).trans ((same_upd m3).trans (same_upd n5)))))) m4) upd_same
end
end K0
namespace K0
open PySem PySem.Spec PyProof.Rows L2
theorem scFirst : FnScope ["_law_text", "_law_number"] ["_law_text", "_law_number"] (defScope sFirst) := ⟨rfl, rfl, rfl, by decide +kernel, rfl, by decide +kernel, by decide +kernel⟩
theorem scSecond : FnScope ["_law_text", "_law_number", "_law_some"] ["_law_text", "_law_number"] (defScope sSecond) := ⟨rfl, rfl, rfl, by decide +kernel, rfl, by decide +kernel, by decide +kernel⟩
theorem same_own {H : Hp} {a d : Addr} {o u : HO} (ha : H a = none) (hd : H d = none) (ne : d ≠ a) : Same H (upd (upd H d o) a u) :=
  (same_upd hd).trans (same_upd (by rw [upd_ne (Ne.symm ne)]; exact ha))
theorem own_xd {H : Hp} {a d : Addr} {o u : HO} (ne : d ≠ a) : (upd (upd H d o) a u) d = some o := by
  rw [upd_ne ne, upd_same]
/-- how the errors are made -/
structure Mk (P : Program) (K : PySem.W.Frag) (mg : Str → Option Value) (L : List Addr) (M fB fN fG : Addr) : Prop where
  sup : mg "super" = none
  b : PySem.OwnX.OwnT P K "place" "the text can not go on at " "BadText.__init__" (L.getD 1 0) fB
  n : PySem.OwnX.OwnT P K "what" "the program is not let by: " "NotLetBy.__init__" (L.getD 10 0) fN
  p : PySem.OwnX.OwnT P K "where" "the parents are not in order: " "BadProgram.__init__" (L.getD 11 0) fG
  e : ∀ i, i < 24 → (i == 1 || i == 10 || i == 11) = false → PySem.W.excIn K (L.getD i 0) [.type "ValueError", .type "Exception", .type "BaseException", .type "object"] "ValueError.__new__" = true ∧ PySem.W.keepIn K (.ref (L.getD i 0)) = true
  eM : PySem.W.excIn K M [.type "ValueError", .type "Exception", .type "BaseException", .type "object"] "ValueError.__new__" = true ∧ PySem.W.keepIn K (.ref M) = true
/-! ### what an f-string tells -/
def KrV (X : Cx) (H : Hp) (d : Nat) (v : V) (n : Nat) : Prop := ∀ (pins : List (Addr × Obj)) (σ : L2.St) (s : Shared) (u : Value), Inv X pins σ H s → RelV v u → KrB X.prog X.w s.heap d u n
inductive KrVs (X : Cx) (H : Hp) (d : Nat) : List V → Nat → Prop
  | nil : KrVs X H d [] 0
  | cons {v : V} {n N : Nat} {l : List V} : KrV X H d v n → KrVs X H d l N → KrVs X H d (v :: l) (n + 2 + N)
theorem KrVs.all {X : Cx} {H : Hp} {d : Nat} {pins : List (Addr × Obj)} {σ : L2.St} {s : Shared} (I : Inv X pins σ H s) : ∀ {xs : List V} {N : Nat} {us : List Value}, KrVs X H d xs N → Vals xs us → KrAll X.prog X.w s.heap d us N
  | _, _, _, .nil, .nil => .nil
  | _, _, _, .cons h t, .cons r q => .cons (h pins σ s _ I r) (KrVs.all I t q)
theorem KrV.str {X : Cx} {H : Hp} {d : Nat} {n : Int} (h0 : 0 ≤ n) (h1 : n < 10 ^ 9) : KrV X H d (.str (Str.ofString (toString n))) 102 := fun _ _ _ u _ r => by
  obtain ⟨t, rfl⟩ := (show ∃ t, u = Value.str _ t from r)
  exact kr_str h0 h1
theorem KrV.lit {X : Cx} {H : Hp} {d : Nat} {x : Str} (h : (reprText x).length ≤ 102) : KrV X H d (.str x) 102 := fun _ _ _ u _ r => by
  obtain ⟨t, rfl⟩ := (show ∃ t, u = Value.str _ t from r)
  exact kr_lit h
theorem KrV.int {X : Cx} {H : Hp} {d : Nat} {n : Int} (h0 : -1 ≤ n) (h1 : n ≤ 20000) : KrV X H d (.int n) 12 := fun _ _ _ u _ r => by
  obtain ⟨t, rfl⟩ := (show ∃ t, u = Value.int n t from r)
  exact kr_int h0 h1
theorem KrV.tup {X : Cx} {H : Hp} {d N : Nat} {a : Addr} {xs : List V} (ha : H a = some (.tup xs)) (h : KrVs X H d xs N) : KrV X H (d + 1) (.ref a) (N + 7) := fun pins σ s u I r => by
  obtain rfl : u = Value.ref a := r
  obtain ⟨_, its, rv, o, h1, h2, n, h3⟩ := (show ObjOk X.prog X.w H s.heap a (.tup xs) from I.hok a _ ha)
  exact KrB.tuple h1 h2 h3 (h.all I rv)
theorem FmtV.int {X : Cx} {H : Hp} {n : Int} (h0 : -1 ≤ n) (h1 : n ≤ 20000) : FmtV X (.int n) H := fun _ _ _ u _ r => by
  obtain ⟨t, rfl⟩ := (show ∃ t, u = Value.int n t from r)
  exact Fmt.int h0 h1
theorem FmtV.tup {X : Cx} {H : Hp} {N : Nat} {a : Addr} {xs : List V} (ha : H a = some (.tup xs)) (h : KrVs X H 1 xs N) (hz : N + 7 ≤ 5000) : FmtV X (.ref a) H := fun pins σ s u I r => by
  obtain rfl : u = Value.ref a := r
  obtain ⟨_, its, rv, o, h1, h2, n, h3⟩ := (show ObjOk X.prog X.w H s.heap a (.tup xs) from I.hok a _ ha)
  exact Fmt.tuple h1 h2 h3 (h.all I rv) hz
section
variable {P : Program} {w : World} {K : PySem.W.Frag} {mg : Str → Option Value} {base : Heap} {L : List Addr} {M fB fN fG : Addr}
def spFirst (L : List Addr) : Sp := fun vs H Q _ => ∃ (t : Str) (n : Int), vs = [.str t, .int n] ∧ -1 ≤ n ∧ n ≤ 20000 ∧
  ∀ (H' : Hp) (p : Addr) (as : List Addr), as.length = 8 → Same H H' → H p = none → H' p = some (.lst (as.map V.ref)) → (∀ i, i < 8 → ExI H' (as.getD i 0) (L.getD i 0)) → Q (.ref p) H'
theorem lt8 {p : Nat → Prop} (h0 : p 0) (h1 : p 1) (h2 : p 2) (h3 : p 3) (h4 : p 4) (h5 : p 5) (h6 : p 6) (h7 : p 7) : ∀ i, i < 8 → p i
  | 0, _ => h0 | 1, _ => h1 | 2, _ => h2 | 3, _ => h3 | 4, _ => h4 | 5, _ => h5 | 6, _ => h6 | 7, _ => h7
  | n + 8, h => absurd h (by omega)
theorem ok_first {f : Addr} {fd : FuncData} {k : Nat} (F : Fun K "_law_first" "_law_first" sFirst f fd) (T : Txt K mg L M) (m : Mk P K mg L M fB fN fG) : FnOk P w K mg base CX0 (k + 2) f fd ["_law_text", "_law_number"] (spFirst L) := by
  refine F.ok scFirst (fun vs H Q E h => ?_) (fun cdv A outer s H vs Q E hr h => ?_)
  · obtain ⟨t, n, rfl, _⟩ := h
    rfl
  · obtain ⟨t, n, rfl, hn0, hn1, q⟩ := h
    refine ⟨_, pss_one (ps_ret (pe_lst (pa_cons (pe_exc1 PySem.F.excBase_ValueError (m.e 0 (by decide) rfl).1 (T.g 0 (by decide)) (m.e 0 (by decide) rfl).2 (by rfl) (pv 0)) (pa_cons (pe_own m.b hr m.sup (T.g 1 (by decide)) (by rfl) (pv 1)) (pa_cons (pe_exc1 PySem.F.excBase_ValueError (m.e 2 (by decide) rfl).1 (T.g 2 (by decide)) (m.e 2 (by decide) rfl).2 (by rfl) (pv 0)) (pa_cons (pe_exc1 PySem.F.excBase_ValueError (m.e 3 (by decide) rfl).1 (T.g 3 (by decide)) (m.e 3 (by decide) rfl).2 (by rfl) (pv 0)) (pa_cons (pe_exc1 PySem.F.excBase_ValueError (m.e 4 (by decide) rfl).1 (T.g 4 (by decide)) (m.e 4 (by decide) rfl).2 (by rfl) (pv 0)) (pa_cons (pe_exc1 PySem.F.excBase_ValueError (m.e 5 (by decide) rfl).1 (T.g 5 (by decide)) (m.e 5 (by decide) rfl).2 (by rfl) (pv 0)) (pa_cons (pe_exc1 PySem.F.excBase_ValueError (m.e 6 (by decide) rfl).1 (T.g 6 (by decide)) (m.e 6 (by decide) rfl).2 (by rfl) (pv 0)) (pa_cons (pe_exc1 PySem.F.excBase_ValueError (m.e 7 (by decide) rfl).1 (T.g 7 (by decide)) (m.e 7 (by decide) rfl).2 (by rfl) (pv 0)) pa_nil)))))))))), ?_⟩
    refine ⟨_, rfl, fun a0 n0 => ⟨_, rfl, FmtV.int hn0 hn1, fun a1 d1 n1 v1 w1 => ⟨_, rfl, fun a2 n2 => ⟨_, rfl, fun a3 n3 => ⟨_, rfl, fun a4 n4 => ⟨_, rfl, fun a5 n5 => ⟨_, rfl, fun a6 n6 => ⟨_, rfl, fun a7 n7 => ⟨by show 8 ≤ sizeLine; decide, fun p np => ?_⟩⟩⟩⟩⟩⟩⟩⟩⟩
    have s0 := (same_upd (o := ExO (.ref (L.getD 0 0)) a0) n0)
    have s1 := (same_own (o := .xd [("place", .int n)]) (u := exo a1 (L.getD 1 0) (some d1)) n1 v1 w1)
    have s2 := (same_upd (o := ExO (.ref (L.getD 2 0)) a2) n2)
    have s3 := (same_upd (o := ExO (.ref (L.getD 3 0)) a3) n3)
    have s4 := (same_upd (o := ExO (.ref (L.getD 4 0)) a4) n4)
    have s5 := (same_upd (o := ExO (.ref (L.getD 5 0)) a5) n5)
    have s6 := (same_upd (o := ExO (.ref (L.getD 6 0)) a6) n6)
    have s7 := (same_upd (o := ExO (.ref (L.getD 7 0)) a7) n7)
    have s8 := same_upd (o := .lst ([a0, a1, a2, a3, a4, a5, a6, a7].map V.ref)) np
    have t7 := s8
    have t6 := s7.trans t7
    have t5 := s6.trans t6
    have t4 := s5.trans t5
    have t3 := s4.trans t4
    have t2 := s3.trans t3
    have t1 := s2.trans t2
    have t0 := s1.trans t1
    refine q _ p [a0, a1, a2, a3, a4, a5, a6, a7] rfl (s0.trans t0) (Same.free (s0.trans (s1.trans (s2.trans (s3.trans (s4.trans (s5.trans (s6.trans s7))))))) np) upd_same ?_
    exact lt8 (ExI.same (H := _) (.inl upd_same) t0) (ExI.same (H := _) (.inr ⟨d1, _, upd_same, own_xd w1⟩) t1) (ExI.same (H := _) (.inl upd_same) t2) (ExI.same (H := _) (.inl upd_same) t3) (ExI.same (H := _) (.inl upd_same) t4) (ExI.same (H := _) (.inl upd_same) t5) (ExI.same (H := _) (.inl upd_same) t6) (ExI.same (H := _) (.inl upd_same) t7)
def spSecond (L : List Addr) : Sp := fun vs H Q _ => ∃ (z n : Int), vs = [.str (Str.ofString (toString z)), .int n] ∧ 0 ≤ z ∧ z < 10 ^ 9 ∧ -1 ≤ n ∧ n ≤ 20000 ∧
  ∀ (H' : Hp) (p : Addr) (as : List Addr), as.length = 13 → Same H H' → H p = none → H' p = some (.lst (as.map V.ref)) → (∀ i, i < 13 → ExI H' (as.getD i 0) (L.getD (8 + i) 0)) → Q (.ref p) H'
theorem lt13 {p : Nat → Prop} (h0 : p 0) (h1 : p 1) (h2 : p 2) (h3 : p 3) (h4 : p 4) (h5 : p 5) (h6 : p 6) (h7 : p 7) (h8 : p 8) (h9 : p 9) (h10 : p 10) (h11 : p 11) (h12 : p 12) : ∀ i, i < 13 → p i
  | 0, _ => h0 | 1, _ => h1 | 2, _ => h2 | 3, _ => h3 | 4, _ => h4 | 5, _ => h5 | 6, _ => h6 | 7, _ => h7 | 8, _ => h8 | 9, _ => h9 | 10, _ => h10 | 11, _ => h11 | 12, _ => h12
  | n + 13, h => absurd h (by omega)
theorem ok_second {f : Addr} {fd : FuncData} {k : Nat} (F : Fun K "_law_second" "_law_second" sSecond f fd) (T : Txt K mg L M) (m : Mk P K mg L M fB fN fG) : FnOk P w K mg base CX0 (k + 2) f fd ["_law_text", "_law_number"] (spSecond L) := by
  refine F.ok scSecond (fun vs H Q E h => ?_) (fun cdv A outer s H vs Q E hr h => ?_)
  · obtain ⟨z, n, rfl, _⟩ := h
    rfl
  · obtain ⟨z, n, rfl, hz0, hz1, hn0, hn1, q⟩ := h
    refine ⟨_, pss_cons (ps_set (i := 2) scSecond.nd rfl (.inl rfl) (pe_lst (pa_cons (pe_exc1 PySem.F.excBase_ValueError (m.e 8 (by decide) rfl).1 (T.g 8 (by decide)) (m.e 8 (by decide) rfl).2 (by rfl) (pv 0)) (pa_cons (pe_exc1 PySem.F.excBase_ValueError (m.e 9 (by decide) rfl).1 (T.g 9 (by decide)) (m.e 9 (by decide) rfl).2 (by rfl) (pv 0)) (pa_cons (pe_own m.n hr m.sup (T.g 10 (by decide)) (by rfl) (pe_tup (pa_cons (pv 0) (pa_cons (pe_tup (pa_cons (pv 1) pa_nil)) pa_nil)))) (pa_cons (pe_own m.p hr m.sup (T.g 11 (by decide)) (by rfl) (pe_tup (pa_cons (pv 0) pa_nil))) (pa_cons (pe_exc1 PySem.F.excBase_ValueError (m.e 12 (by decide) rfl).1 (T.g 12 (by decide)) (m.e 12 (by decide) rfl).2 (by rfl) (pv 0)) (pa_cons (pe_exc1 PySem.F.excBase_ValueError (m.e 13 (by decide) rfl).1 (T.g 13 (by decide)) (m.e 13 (by decide) rfl).2 (by rfl) (pv 0)) (pa_cons (pe_exc1 PySem.F.excBase_ValueError (m.e 14 (by decide) rfl).1 (T.g 14 (by decide)) (m.e 14 (by decide) rfl).2 (by rfl) (pv 0)) pa_nil)))))))))
      (pss_one (ps_ret (pe_op op_cat (pv 2) (pe_lst (pa_cons (pe_exc1 PySem.F.excBase_ValueError (m.e 15 (by decide) rfl).1 (T.g 15 (by decide)) (m.e 15 (by decide) rfl).2 (by rfl) (pv 0)) (pa_cons (pe_exc1 PySem.F.excBase_ValueError (m.e 16 (by decide) rfl).1 (T.g 16 (by decide)) (m.e 16 (by decide) rfl).2 (by rfl) (pv 0)) (pa_cons (pe_exc1 PySem.F.excBase_ValueError (m.e 17 (by decide) rfl).1 (T.g 17 (by decide)) (m.e 17 (by decide) rfl).2 (by rfl) (pv 0)) (pa_cons (pe_exc1 PySem.F.excBase_ValueError (m.e 18 (by decide) rfl).1 (T.g 18 (by decide)) (m.e 18 (by decide) rfl).2 (by rfl) (pv 0)) (pa_cons (pe_exc1 PySem.F.excBase_ValueError (m.e 19 (by decide) rfl).1 (T.g 19 (by decide)) (m.e 19 (by decide) rfl).2 (by rfl) (pv 0)) (pa_cons (pe_exc1 PySem.F.excBase_ValueError (m.e 20 (by decide) rfl).1 (T.g 20 (by decide)) (m.e 20 (by decide) rfl).2 (by rfl) (pv 0)) pa_nil)))))))))), ?_⟩
    refine ⟨_, rfl, fun a8 n8 => ⟨_, rfl, fun a9 n9 => ⟨_, rfl, _, rfl, by show 1 ≤ sizeLine; decide, fun t1 u1 => ⟨by show 2 ≤ sizeLine; decide, fun t2 u2 => ⟨FmtV.tup upd_same (.cons (KrV.str hz0 hz1) (.cons (KrV.tup (same_upd u2 _ _ upd_same) (.cons (KrV.int hn0 hn1) .nil)) .nil)) (by decide), fun a10 d10 n10 v10 w10 => ⟨_, rfl, by show 1 ≤ sizeLine; decide, fun t3 u3 => ⟨FmtV.tup upd_same (.cons (KrV.str hz0 hz1) .nil) (by decide), fun a11 d11 n11 v11 w11 => ⟨_, rfl, fun a12 n12 => ⟨_, rfl, fun a13 n13 => ⟨_, rfl, fun a14 n14 => ⟨by show 7 ≤ sizeLine; decide, fun l1 m1 => ?_⟩⟩⟩⟩⟩⟩⟩⟩⟩⟩⟩
    have s_e8 := (same_upd (o := ExO (.ref (L.getD 8 0)) a8) n8)
    have s_e9 := (same_upd (o := ExO (.ref (L.getD 9 0)) a9) n9)
    have s_t1 := (same_upd (o := .tup [.int n]) u1)
    have s_t2 := (same_upd (o := .tup [(.str (Str.ofString (toString z))), .ref t1]) u2)
    have s_e10 := (same_own (o := .xd [("what", .ref t2)]) (u := exo a10 (L.getD 10 0) (some d10)) n10 v10 w10)
    have s_t3 := (same_upd (o := .tup [(.str (Str.ofString (toString z)))]) u3)
    have s_e11 := (same_own (o := .xd [("where", .ref t3)]) (u := exo a11 (L.getD 11 0) (some d11)) n11 v11 w11)
    have s_e12 := (same_upd (o := ExO (.ref (L.getD 12 0)) a12) n12)
    have s_e13 := (same_upd (o := ExO (.ref (L.getD 13 0)) a13) n13)
    have s_e14 := (same_upd (o := ExO (.ref (L.getD 14 0)) a14) n14)
    have s_l1 := (same_upd (o := .lst ([a8, a9, a10, a11, a12, a13, a14].map V.ref)) m1)
    refine ⟨_, rfl, _, rfl, fun a15 n15 => ⟨_, rfl, fun a16 n16 => ⟨_, rfl, fun a17 n17 => ⟨_, rfl, fun a18 n18 => ⟨_, rfl, fun a19 n19 => ⟨_, rfl, fun a20 n20 => ⟨by show 6 ≤ sizeLine; decide, fun l2 m2 => ?_⟩⟩⟩⟩⟩⟩⟩
    have s_e15 := (same_upd (o := ExO (.ref (L.getD 15 0)) a15) n15)
    have s_e16 := (same_upd (o := ExO (.ref (L.getD 16 0)) a16) n16)
    have s_e17 := (same_upd (o := ExO (.ref (L.getD 17 0)) a17) n17)
    have s_e18 := (same_upd (o := ExO (.ref (L.getD 18 0)) a18) n18)
    have s_e19 := (same_upd (o := ExO (.ref (L.getD 19 0)) a19) n19)
    have s_e20 := (same_upd (o := ExO (.ref (L.getD 20 0)) a20) n20)
    have s_l2 := (same_upd (o := .lst ([a15, a16, a17, a18, a19, a20].map V.ref)) m2)
    refine ⟨l1, l2, _, _, rfl, rfl, (s_e15.trans (s_e16.trans (s_e17.trans (s_e18.trans (s_e19.trans (s_e20.trans (same_upd m2))))))) _ _ upd_same, upd_same, by show 13 ≤ sizeLine; decide, fun p np => ?_⟩
    have s_p := same_upd (o := .lst ([a8, a9, a10, a11, a12, a13, a14, a15, a16, a17, a18, a19, a20].map V.ref)) np
    have r_l2 := s_p
    have r_e20 := s_l2.trans r_l2
    have r_e19 := s_e20.trans r_e20
    have r_e18 := s_e19.trans r_e19
    have r_e17 := s_e18.trans r_e18
    have r_e16 := s_e17.trans r_e17
    have r_e15 := s_e16.trans r_e16
    have r_l1 := s_e15.trans r_e15
    have r_e14 := s_l1.trans r_l1
    have r_e13 := s_e14.trans r_e14
    have r_e12 := s_e13.trans r_e13
    have r_e11 := s_e12.trans r_e12
    have r_t3 := s_e11.trans r_e11
    have r_e10 := s_t3.trans r_t3
    have r_t2 := s_e10.trans r_e10
    have r_t1 := s_t2.trans r_t2
    have r_e9 := s_t1.trans r_t1
    have r_e8 := s_e9.trans r_e9
    refine q _ p [a8, a9, a10, a11, a12, a13, a14, a15, a16, a17, a18, a19, a20] rfl (s_e8.trans r_e8) (Same.free (s_e8.trans (s_e9.trans (s_t1.trans (s_t2.trans (s_e10.trans (s_t3.trans (s_e11.trans (s_e12.trans (s_e13.trans (s_e14.trans (s_l1.trans (s_e15.trans (s_e16.trans (s_e17.trans (s_e18.trans (s_e19.trans (s_e20.trans s_l2))))))))))))))))) np) upd_same ?_
    exact lt13 (ExI.same (.inl upd_same) r_e8) (ExI.same (.inl upd_same) r_e9) (ExI.same (.inr ⟨d10, _, upd_same, own_xd w10⟩) r_e10) (ExI.same (.inr ⟨d11, _, upd_same, own_xd w11⟩) r_e11) (ExI.same (.inl upd_same) r_e12) (ExI.same (.inl upd_same) r_e13) (ExI.same (.inl upd_same) r_e14) (ExI.same (.inl upd_same) r_e15) (ExI.same (.inl upd_same) r_e16) (ExI.same (.inl upd_same) r_e17) (ExI.same (.inl upd_same) r_e18) (ExI.same (.inl upd_same) r_e19) (ExI.same (.inl upd_same) r_e20)
end
end K0
namespace K0
open PySem PySem.Spec PyProof.Rows L2
theorem scFields : FnScope ["_law_text", "_law_number", "_law_told"] ["_law_text", "_law_number"] (defScope sFields) := ⟨rfl, rfl, rfl, by decide +kernel, rfl, by decide +kernel, by decide +kernel⟩
theorem xf_of {P : Program} {K : PySem.W.Frag} {f pre qual : Str} {C fI : Addr} (T : PySem.OwnX.OwnT P K f pre qual C fI) : XfC K C := ⟨T.ga, T.gg, T.exC, T.hdC⟩
theorem look1 {f : Str} {v : V} : List.lookup f [(f, v)] = some v := by
  rw [lookup_put, if_pos rfl]
section
variable {P : Program} {w : World} {K : PySem.W.Frag} {mg : Str → Option Value} {base : Heap} {L : List Addr} {M fB fN fG : Addr}
theorem ok_str (x : String) : PyData.strOk (Str.ofString x) = true := by
  unfold PyData.strOk
  rw [Array.all_eq_true_iff_forall_mem]
  intro c hc
  have hc' : c ∈ (Str.ofString x).cps.toList := Array.mem_toList_iff.mpr hc
  rw [signs_ofString] at hc'
  obtain ⟨a, _, rfl⟩ := List.mem_map.mp hc'
  have h2 : a.toNat < 1114112 := by
    rcases a.valid with h | h
    · exact Nat.lt_trans h (by decide)
    · exact h.2
  exact decide_eq_true h2
abbrev tx (z : Int) : Str := Str.ofString (toString z)
def dTold (z n : Int) : PyData := .tuple [.str (tx z), .tuple [.str "Cod", .str (tx z), .int n]]
def dOne (z : Int) : PyData := .tuple [.str (tx z)]
def dTwo (z : Int) : PyData := .tuple [.str (tx z), .str (tx z)]
theorem shaped_of {d : PyData} (h : d.canLay0 = true) (k : d.depth ≤ 64) : SeqAt.shaped d = true := Bool.and_eq_true_iff.mpr ⟨h, decide_eq_true k⟩
theorem told_shaped (z n : Int) : SeqAt.shaped (dTold z n) = true := shaped_of (by
  simp only [dTold, PyData.canLay0, PyData.canLayAll0, tx, ok_str, Bool.and_true, Bool.true_and]) (by show 2 ≤ 64; decide)
theorem one_shaped (z : Int) : SeqAt.shaped (dOne z) = true := shaped_of (by
  simp only [dOne, PyData.canLay0, PyData.canLayAll0, tx, ok_str, Bool.and_true, Bool.true_and]) (by show 1 ≤ 64; decide)
theorem two_shaped (z : Int) : SeqAt.shaped (dTwo z) = true := shaped_of (by
  simp only [dTwo, PyData.canLay0, PyData.canLayAll0, tx, ok_str, Bool.and_true, Bool.true_and]) (by show 1 ≤ 64; decide)
theorem eqv_same {d : PyData} (h : SeqAt.shaped d = true) : PyData.eqv d d = true := SeqAt.eqv_refl _ (SeqAt.canLay_of_shaped h)
theorem dp_told {H : Hp} {t1 t2 : Addr} {z n : Int} (h2 : H t2 = some (.tup [.str (tx z), .ref t1])) (h1 : H t1 = some (.tup [.str "Cod", .str (tx z), .int n])) : Dp K H (.ref t2) (dTold z n) :=
  .tup (.inl (.inl h2)) (.cons (.str _) (.cons (.tup (.inl (.inl h1)) (.cons (.str _) (.cons (.str _) (.cons (.int _) .nil)))) .nil))
theorem dp_one {H : Hp} {t : Addr} {z : Int} (h : H t = some (.tup [.str (tx z)])) : Dp K H (.ref t) (dOne z) := .tup (.inl (.inl h)) (.cons (.str _) .nil)
theorem dp_two {H : Hp} {t : Addr} {z : Int} (h : H t = some (.tup [.str (tx z), .str (tx z)])) : Dp K H (.ref t) (dTwo z) := .tup (.inl (.inl h)) (.cons (.str _) (.cons (.str _) .nil))
theorem not_eqv {d : PyData} {A B : Prop} (h : SeqAt.shaped d = true) (b : B) : if (!PyData.eqv d d) = true then A else B := by
  rw [eqv_same h]
  exact iteF b
def spFields : Sp := fun vs H Q _ => ∃ (z n : Int), vs = [.str (Str.ofString (toString z)), .int n] ∧ 0 ≤ z ∧ z < 10 ^ 9 ∧ -1 ≤ n ∧ n ≤ 20000 ∧ ∀ H', Same H H' → Q (.bl true) H'
theorem ok_fields {f : Addr} {fd : FuncData} {k : Nat} (F : Fun K "_law_fields" "_law_fields" sFields f fd) (T : Txt K mg L M) (m : Mk P K mg L M fB fN fG) : FnOk P w K mg base CX0 (k + 2) f fd ["_law_text", "_law_number"] spFields := by
  refine F.ok scFields (fun vs H Q E h => ?_) (fun cdv A outer s H vs Q E hr h => ?_)
  · obtain ⟨z, n, rfl, _⟩ := h
    rfl
  · obtain ⟨z, n, rfl, hz0, hz1, hn0, hn1, q⟩ := h
    have hu := hr.units
    refine ⟨_, pss_cons (ps_if (pw_or (pt_cmpR op_ne (pe_fldx (pe_own m.b hr m.sup (T.g 1 (by decide)) (by rfl) (pv 1))) (pv 1) (nomark _)) (pw_or1 (pt_cmpR op_ne (pe_fldx (pe_ownK m.b hr m.sup (T.g 1 (by decide)) (by rfl) (pv 1))) (pv 1) (nomark _)))).pt (pss_one (ps_ret pe_bl)) pss_nil)
      (pss_cons (ps_set (i := 2) scFields.nd rfl (.inl rfl) (pe_tup (pa_cons (pv 0) (pa_cons (pe_tup (pa_cons pe_str (pa_cons (pv 0) (pa_cons (pv 1) pa_nil)))) pa_nil))))
      (pss_cons (ps_if (pw_or (pt_cmpR (op_neD hu) (pe_fldx (pe_own m.n hr m.sup (T.g 10 (by decide)) (by rfl) (pv 2))) (pv 2) (nomark _)) (pw_or1 (pt_cmpR (op_neD hu) (pe_fldx (pe_ownK m.n hr m.sup (T.g 10 (by decide)) (by rfl) (pv 2))) (pv 2) (nomark _)))).pt (pss_one (ps_ret pe_bl)) pss_nil)
      (pss_one (ps_ret (pe_and (pe_cmpR (op_eqD hu) (pe_fldx (pe_own m.p hr m.sup (T.g 11 (by decide)) (by rfl) (pe_tup (pa_cons (pv 0) pa_nil)))) (pe_tup (pa_cons (pv 0) pa_nil)) (nomark _)) (pe_one (pe_cmpR (op_eqD hu) (pe_fldx (pe_ownK m.p hr m.sup (T.g 11 (by decide)) (by rfl) (pe_tup (pa_cons (pv 0) (pa_cons (pv 0) pa_nil))))) (pe_tup (pa_cons (pv 0) (pa_cons (pv 0) pa_nil))) (nomark _)))))))), ?_⟩
    -- BadText(n).place != n or BadText(place=n).place != n
    refine ⟨_, rfl, FmtV.int hn0 hn1, fun a1 d1 x1 y1 w1 => ?_⟩
    have s1 := same_own (o := .xd [("place", .int n)]) (u := exo a1 (L.getD 1 0) (some d1)) x1 y1 w1
    refine ⟨a1, _, d1, _, .int n, rfl, upd_same, own_xd w1, xf_of m.b, m.b.noN, look1, _, rfl, rfl, _, rfl, iteNS rfl ?_⟩
    refine ⟨_, rfl, _, rfl, FmtV.int hn0 hn1, fun a2 d2 x2 y2 w2 => ?_⟩
    have s2 := same_own (o := .xd [("place", .int n)]) (u := exo a2 (L.getD 1 0) (some d2)) x2 y2 w2
    refine ⟨a2, _, d2, _, .int n, rfl, upd_same, own_xd w2, xf_of m.b, m.b.noN, look1, _, rfl, rfl, _, rfl, iteNS rfl ?_⟩
    -- told
    refine ⟨_, rfl, _, rfl, _, rfl, by show 3 ≤ sizeLine; decide, fun t1 z1 => ⟨by show 2 ≤ sizeLine; decide, fun t2 z2 => ?_⟩⟩
    have s3 := same_upd (o := .tup [.str "Cod", .str (tx z), .int n]) z1
    have s4 := same_upd (o := .tup [.str (tx z), .ref t1]) z2
    have k1 := s4 _ _ (upd_same (a := t1))
    have fm : ∀ {X : Cx} {H : Hp}, H t2 = some (.tup [.str (tx z), .ref t1]) → H t1 = some (.tup [.str "Cod", .str (tx z), .int n]) → FmtV X (.ref t2) H := fun h2 h1 =>
      FmtV.tup h2 (.cons (KrV.str hz0 hz1) (.cons (KrV.tup h1 (.cons (KrV.lit (by decide +kernel)) (.cons (KrV.str hz0 hz1) (.cons (KrV.int hn0 hn1) .nil)))) .nil)) (by decide)
    refine ⟨_, rfl, fm upd_same k1, fun a3 d3 x3 y3 w3 => ?_⟩
    have s5 := same_own (o := .xd [("what", .ref t2)]) (u := exo a3 (L.getD 10 0) (some d3)) x3 y3 w3
    have p2 := s5 _ _ (upd_same (a := t2))
    have p1 := s5 _ _ k1
    refine ⟨a3, _, d3, _, .ref t2, rfl, upd_same, own_xd w3, xf_of m.n, m.n.noN, look1, _, rfl, dTold z n, dTold z n, dp_told p2 p1, dp_told p2 p1, told_shaped z n, told_shaped z n, _, rfl, not_eqv (told_shaped z n) ?_⟩
    refine ⟨_, rfl, _, rfl, fm p2 p1, fun a4 d4 x4 y4 w4 => ?_⟩
    have s6 := same_own (o := .xd [("what", .ref t2)]) (u := exo a4 (L.getD 10 0) (some d4)) x4 y4 w4
    have r2 := s6 _ _ p2
    have r1 := s6 _ _ p1
    refine ⟨a4, _, d4, _, .ref t2, rfl, upd_same, own_xd w4, xf_of m.n, m.n.noN, look1, _, rfl, dTold z n, dTold z n, dp_told r2 r1, dp_told r2 r1, told_shaped z n, told_shaped z n, _, rfl, not_eqv (told_shaped z n) ?_⟩
    -- where
    refine ⟨_, rfl, by show 1 ≤ sizeLine; decide, fun t3 z3 => ⟨FmtV.tup upd_same (.cons (KrV.str hz0 hz1) .nil) (by decide), fun a5 d5 x5 y5 w5 => ?_⟩⟩
    have s7 := same_upd (o := .tup [.str (tx z)]) z3
    have s8 := same_own (o := .xd [("where", .ref t3)]) (u := exo a5 (L.getD 11 0) (some d5)) x5 y5 w5
    have g3 := s8 _ _ (upd_same (a := t3))
    refine ⟨a5, _, d5, _, .ref t3, rfl, upd_same, own_xd w5, xf_of m.p, m.p.noN, look1, _, rfl, by show 1 ≤ sizeLine; decide, fun t4 z4 => ?_⟩
    have s9 := same_upd (o := .tup [.str (tx z)]) z4
    refine ⟨dOne z, dOne z, dp_one (s9 _ _ g3), dp_one upd_same, one_shaped z, one_shaped z, _, rfl, ?_⟩
    rw [eqv_same (one_shaped z)]
    refine iteT ⟨_, rfl, _, rfl, by show 2 ≤ sizeLine; decide, fun t5 z5 => ⟨_, rfl, FmtV.tup upd_same (.cons (KrV.str hz0 hz1) (.cons (KrV.str hz0 hz1) .nil)) (by decide), fun a6 d6 x6 y6 w6 => ?_⟩⟩
    have s10 := same_upd (o := .tup [.str (tx z), .str (tx z)]) z5
    have s11 := same_own (o := .xd [("where", .ref t5)]) (u := exo a6 (L.getD 11 0) (some d6)) x6 y6 w6
    have g5 := s11 _ _ (upd_same (a := t5))
    refine ⟨a6, _, d6, _, .ref t5, rfl, upd_same, own_xd w6, xf_of m.p, m.p.noN, look1, _, rfl, _, rfl, by show 2 ≤ sizeLine; decide, fun t6 z6 => ?_⟩
    have s12 := same_upd (o := .tup [.str (tx z), .str (tx z)]) z6
    refine ⟨dTwo z, dTwo z, dp_two (s12 _ _ g5), dp_two upd_same, two_shaped z, two_shaped z, ?_⟩
    rw [eqv_same (two_shaped z)]
    exact q _ (s1.trans (s2.trans (s3.trans (s4.trans (s5.trans (s6.trans (s7.trans (s8.trans (s9.trans (s10.trans (s11.trans s12)))))))))))
end
end K0
namespace K0
open PySem PySem.Spec PyProof.Rows L2
abbrev NL : List Str := ["_law_script", "_law_k", "_law_pool_here", "_law_text", "_law_number", "_law_errors", "_law_at", "_law_base", "_law_other"]
theorem scLaw : FnScope NL ["_law_script"] (defScope sLaw) := ⟨rfl, rfl, rfl, by decide +kernel, rfl, by decide +kernel, by decide +kernel⟩
theorem dp_bools {K : PySem.W.Frag} {H : Hp} (f : Nat → Bool) : ∀ l : List Nat, DpAll K H (l.map fun k => V.bl (f k)) (l.map fun k => PyData.bool (f k))
  | [] => .nil
  | _ :: l => .cons (.bl _) (dp_bools f l)
theorem lay_bools (f : Nat → Bool) : ∀ l : List Nat, PyData.canLayAll0 (l.map fun k => PyData.bool (f k)) = true
  | [] => rfl
  | _ :: l => lay_bools f l
def dB (f : Nat → Bool) : PyData := .list ((List.range 24).map fun k => PyData.bool (f k))
theorem dB_shaped (f : Nat → Bool) : SeqAt.shaped (dB f) = true := shaped_of (lay_bools f _) (by show 1 ≤ 64; decide)
theorem get3 {as1 as2 : List Addr} {a b c : Addr} (l1 : as1.length = 8) (l2 : as2.length = 13) (p : Nat → Addr → Prop) (h1 : ∀ i, i < 8 → p i (as1.getD i 0)) (h2 : ∀ i, i < 13 → p (8 + i) (as2.getD i 0)) (p1 : p 21 a) (p2 : p 22 b) (p3 : p 23 c) :
    ∀ i, i < 24 → p i (((as1 ++ as2) ++ [a, b, c]).getD i 0) := fun i hi => by
  rw [List.getD_eq_getElem?_getD]
  by_cases h8 : i < 8
  · rw [List.getElem?_append_left (by rw [List.length_append]; omega), List.getElem?_append_left (by omega), ← List.getD_eq_getElem?_getD]
    exact h1 i h8
  by_cases h21 : i < 21
  · rw [List.getElem?_append_left (by rw [List.length_append]; omega), List.getElem?_append_right (by omega), ← List.getD_eq_getElem?_getD, l1]
    have := h2 (i - 8) (by omega)
    rw [show 8 + (i - 8) = i by omega] at this
    exact this
  · rw [List.getElem?_append_right (by rw [List.length_append]; omega), List.length_append, l1, l2]
    have e : i = 21 ∨ i = 22 ∨ i = 23 := by omega
    rcases e with rfl | rfl | rfl
    · exact p1
    · exact p2
    · exact p3
theorem log_of {z : Int} (h0 : 0 ≤ z) (h1 : z < 10 ^ Int.toNat 9) : z.natAbs.log2 < 1920 := by
  have h1' : z < 1000000000 := h1
  by_cases hz : z.natAbs = 0
  · rw [hz]
    decide
  · have h : z.natAbs < 2 ^ 30 := by omega
    exact Nat.lt_trans ((Nat.log2_lt hz).mpr h) (by decide)
theorem tyes {σ : L2.St} {H : Hp} {A B : Hp → Prop} (x : A H) : tYes σ H fun b H3 => if b = true then A H3 else B H3 := by
  show if true = true then A H else B H
  rw [if_pos rfl]
  exact x
section
variable {P : Program} {w : World} {K : PySem.W.Frag} {mg : Str → Option Value} {base : Heap} {L : List Addr} {M fB fN fG : Addr}
def spLaw (K : PySem.W.Frag) : Sp := fun vs H Q _ => ∃ (a : Addr) (ns : List Int), vs = [.ref a] ∧ SqL K H a (ns.map V.int) ∧ ns.length ≤ 63 ∧ ∀ H', Q (.bl true) H'
structure Gs (mg : Str → Option Value) (fPool fPick fMarks fFirst fSecond fFields : Addr) : Prop where
  pool : mg "_law_pool" = some (.ref fPool)
  pick : mg "_law_pick" = some (.ref fPick)
  marks : mg "_law_marks" = some (.ref fMarks)
  first : mg "_law_first" = some (.ref fFirst)
  second : mg "_law_second" = some (.ref fSecond)
  fields : mg "_law_fields" = some (.ref fFields)
  range : mg "range" = none
  min : mg "min" = none
  max : mg "max" = none
  len : mg "len" = none
  sum : mg "sum" = none
  int : mg "int" = none
  str : mg "str" = none
  isi : mg "isinstance" = none
  ve : mg "ValueError" = none
theorem ok_law {f fPool fPick fMarks fFirst fSecond fFields : Addr} {fd dPool dPick dMarks dFirst dSecond dFields : FuncData} (F : Fun K "law" "law" sLaw f fd) (T : Txt K mg L M) (m : Mk P K mg L M fB fN fG) (G : Gs mg fPool fPick fMarks fFirst fSecond fFields)
    (F1 : Fun K "_law_pool" "_law_pool" sPool fPool dPool) (b1 : Binds K dPool ["_law_script", "_law_k"] [])
    (F2 : Fun K "_law_pick" "_law_pick" sPick fPick dPick) (b2 : Binds K dPick ["_law_pool_here", "_law_many"] [])
    (F3 : Fun K "_law_marks" "_law_marks" sMarks fMarks dMarks) (b3 : Binds K dMarks ["_law_e"] [])
    (F4 : Fun K "_law_first" "_law_first" sFirst fFirst dFirst) (b4 : Binds K dFirst ["_law_text", "_law_number"] [])
    (F5 : Fun K "_law_second" "_law_second" sSecond fSecond dSecond) (b5 : Binds K dSecond ["_law_text", "_law_number"] [])
    (F6 : Fun K "_law_fields" "_law_fields" sFields fFields dFields) (b6 : Binds K dFields ["_law_text", "_law_number"] []) : FnOk P w K mg base CX0 3 f fd ["_law_script"] (spLaw K) := by
  have G1 : FnOk P w K mg base CX0 1 fPool dPool ["_law_script", "_law_k"] (spPool K) := ok_pool F1 G.sum G.len G.int G.max
  have G2 : FnOk P w K mg base CX0 1 fPick dPick ["_law_pool_here", "_law_many"] spPick := ok_pick F2 G.int
  have G3 : FnOk P w K mg base CX0 1 fMarks dMarks ["_law_e"] (spMarks K L) := ok_marks F3 T G.isi
  have G4 : FnOk P w K mg base CX0 2 fFirst dFirst ["_law_text", "_law_number"] (spFirst L) := ok_first F4 T m
  have G5 : FnOk P w K mg base CX0 2 fSecond dSecond ["_law_text", "_law_number"] (spSecond L) := ok_second F5 T m
  have G6 : FnOk P w K mg base CX0 2 fFields dFields ["_law_text", "_law_number"] spFields := ok_fields F6 T m
  refine F.ok scLaw (fun vs H Q E h => ?_) (fun cdv A outer s H vs Q E hr h => ?_)
  · obtain ⟨a, ns, rfl, _⟩ := h
    rfl
  · obtain ⟨a, ns, rfl, hS, hlen, q⟩ := h
    have hu := hr.units
    have hr1 := hr.mono (j := 1) (by decide)
    have hu65 : (A.deeper (envOfC "law" (defScope sLaw) s.heap.objs.size f cdv)).units + 65 < cLine := by
      have := hr.un
      omega
    refine ⟨_, (pss_cons (ps_for PassesOwn.never rfl (pi_range1 (by rfl) G.range (pa_cons (pe_op op_add pe_int (pe_callB (call_min2 rfl) (by rfl) G.min (by decide +kernel) (pa_cons pe_int (pa_cons (pe_callB call_len_seq (by rfl) G.len PySem.boot_len (pa_cons (pv 0) pa_nil)) pa_nil)))) pa_nil)) (pg_name (i := 1) scLaw.nd rfl (.inl rfl))
        (pss_cons (ps_set (i := 2) scLaw.nd rfl (.inl rfl) (pe_call G1 hr1 (by rfl) G.pool F1.kp b1 .nil pass0 (pa_cons (pv 0) (pa_cons (pv 1) pa_nil)))) (pss_cons (ps_set (i := 3) scLaw.nd rfl (.inl rfl) (pe_callTy call_str_int (by rfl) G.str (by decide +kernel) (pa_cons (pe_call G2 hr1 (by rfl) G.pick F2.kp b2 .nil pass0 (pa_cons (pv 2) (pa_cons (pe_op op_pow pe_int pe_int) pa_nil))) pa_nil))) (pss_cons (ps_set (i := 4) scLaw.nd rfl (.inl rfl) (pe_op op_sub (pe_call G2 hr1 (by rfl) G.pick F2.kp b2 .nil pass0 (pa_cons (pv 2) (pa_cons pe_int pa_nil))) pe_int)) (pss_cons (ps_set (i := 5) scLaw.nd rfl (.inl rfl) (pe_op op_cat (pe_op op_cat (pe_call G4 hr (by rfl) G.first F4.kp b4 .nil pass0 (pa_cons (pv 3) (pa_cons (pv 4) pa_nil))) (pe_call G5 hr (by rfl) G.second F5.kp b5 .nil pass0 (pa_cons (pv 3) (pa_cons (pv 4) pa_nil)))) (pe_lst (pa_cons (pe_exc1 PySem.F.excBase_ValueError (m.e 21 (by decide) rfl).1 (T.g 21 (by decide)) (m.e 21 (by decide) rfl).2 (by rfl) (pv 3)) (pa_cons (pe_exc1 PySem.F.excBase_ValueError (m.e 22 (by decide) rfl).1 (T.g 22 (by decide)) (m.e 22 (by decide) rfl).2 (by rfl) (pv 3)) (pa_cons (pe_exc1 PySem.F.excBase_ValueError (m.e 23 (by decide) rfl).1 (T.g 23 (by decide)) (m.e 23 (by decide) rfl).2 (by rfl) (pv 3)) pa_nil)))))) (pss_cons (ps_if (pt_cmpR op_ne (pe_callB call_len_seq (by rfl) G.len PySem.boot_len (pa_cons (pv 5) pa_nil)) pe_int (nomark _)) (pss_one (ps_ret pe_bl)) pss_nil) (pss_cons (ps_for PassesOwn.never rfl (pi_range1 (by rfl) G.range (pa_cons pe_int pa_nil)) (pg_name (i := 6) scLaw.nd rfl (.inr rfl)) (pss_cons (ps_if (pt_cmpR (op_neD hu) (pe_call G3 hr1 (by rfl) G.marks F3.kp b3 .nil pass0 (pa_cons (pe_ix ix_list (pv 5) (pv 6) (fun _ _ => rfl)) pa_nil)) (pe_lc (own := [("_law_other", 8)]) (g := gName 8) (tt := tYes) rfl scLaw.nd (pi_range1 (by rfl) G.range (pa_cons pe_int pa_nil)) (blkOk_by (N := NL) (sc := defScope sLaw) (by decide +kernel)) (fun _ _ _ _ _ => pg_name (i := 8) scLaw.nd rfl (.inl rfl)) (fun _ _ _ _ _ => pts_nil) (fun _ _ _ _ _ => pe_cmpR op_eq (pv 6) (pv 8) (nomark _))) (nomark _)) (pss_one (ps_ret pe_bl)) pss_nil) (pss_one (ps_if (pw_or (pt_not (pt_val (pe_callB (call_isx T.o) (by rfl) G.isi (by decide +kernel) (pa_cons (pe_ix ix_list (pv 5) (pv 6) (fun _ _ => rfl)) (pa_cons (pe_glob (v := V.ref M) (by rfl) T.gM rfl) pa_nil))))) (pw_or1 (pt_not (pt_val (pe_callB (call_isx T.o) (by rfl) G.isi (by decide +kernel) (pa_cons (pe_ix ix_list (pv 5) (pv 6) (fun _ _ => rfl)) (pa_cons (pe_bltn (v := V.ty "ValueError") (by rfl) G.ve (by decide +kernel) rfl) pa_nil))))))).pt (pss_one (ps_ret pe_bl)) pss_nil)))) (pss_cons (ps_set (i := 7) scLaw.nd rfl (.inl rfl) (pe_exc1 PySem.F.excBase_ValueError m.eM.1 T.gM m.eM.2 (by rfl) (pv 3))) (pss_one (ps_if (pw_or (pt_not (pt_val (pe_callB (call_isx T.o) (by rfl) G.isi (by decide +kernel) (pa_cons (pv 7) (pa_cons (pe_bltn (v := V.ty "ValueError") (by rfl) G.ve (by decide +kernel) rfl) pa_nil))))) (pw_or (pt_cmpR (op_inD hu65) pe_bl (pe_call G3 hr1 (by rfl) G.marks F3.kp b3 .nil pass0 (pa_cons (pv 7) pa_nil)) (by with_unfolding_all rfl)) (pw_or1 (pt_not (pt_val (pe_call G6 hr (by rfl) G.fields F6.kp b6 .nil pass0 (pa_cons (pv 3) (pa_cons (pv 4) pa_nil)))))))).pt (pss_one (ps_ret pe_bl)) pss_nil)))))))))) (pss_one (ps_ret pe_bl))), ?_⟩
    -- for k in range(1 + min(24, len(script)))
    refine ⟨_, rfl, a, _, rfl, .inl hS, _, _, rfl, _, _, rfl, rfl, _, rfl, ?_, ?_, ?_⟩
    · rw [List.length_map]
      split <;> omega
    · rw [List.length_map]
      split <;> omega
    refine for_range (fun i σ H' => ∃ v1 v2 v3 v4 v5 v6 v7 v8 : Option V, σ = [some (.ref a), v1, v2, v3, v4, v5, v6, v7, v8] ∧ Same H H') ⟨_, _, _, _, _, _, _, _, rfl, Same.refl _⟩ ?_ ?_
    · rintro i σ H0 hi ⟨v1, v2, v3, v4, v5, v6, v7, v8, rfl, s0⟩
      have hi24 : i ≤ 24 := by
        rw [List.length_map] at hi
        split at hi <;> omega
      refine ⟨_, rfl, _, rfl, a, ns, _, rfl, s0.seq hS, by omega, by omega, fun H1 p x y s1 np hx0 hxB hyB hp => ?_⟩
      -- text, number
      refine ⟨_, rfl, _, _, rfl, rfl, ⟨by decide, by decide, by decide⟩, p, _, x, y, 0, rfl, by decide, by decide, hp, hx0, hxB, hyB, by decide, by decide, fun z x1 hz0 hz1 hx10 hx1B => ?_⟩
      have hzl : z.natAbs.log2 < 1920 := log_of hz0 hz1
      refine ⟨_, rfl, hzl, ?_⟩
      refine ⟨_, rfl, p, _, x1, y, 1, rfl, by decide, by decide, upd_same, hx10, hx1B, hyB, by decide, by decide, fun c x2 hc0 hc1 _ _ => ?_⟩
      refine ⟨_, _, rfl, rfl, ?_⟩
      have hz9 : z < 10 ^ 9 := hz1
      -- the errors
      refine ⟨_, rfl, _, rfl, Str.ofString (toString z), c - 1, rfl, by omega, by omega, fun H3 l1 as1 len1 s3 n3 e3 x3 => ?_⟩
      refine ⟨_, rfl, _, rfl, z, c - 1, rfl, hz0, hz9, by omega, by omega, fun H4 l2 as2 len2 s4 n4 e4 x4 => ?_⟩
      refine ⟨l1, l2, _, _, rfl, rfl, s4 _ _ e3, e4, by rw [List.length_map, List.length_map, len1, len2]; decide, fun l3 m3 => ?_⟩
      refine ⟨_, rfl, fun a1 n1 => ⟨_, rfl, fun a2 n2 => ⟨_, rfl, fun a3 n3 => ⟨by show 3 ≤ sizeLine; decide, fun l4 m4 => ?_⟩⟩⟩⟩
      have u3 := same_upd (o := .lst (as1.map V.ref ++ as2.map V.ref)) m3
      have u4 := same_upd (o := ExO (.ref (L.getD 21 0)) a1) n1
      have u5 := same_upd (o := ExO (.ref (L.getD 22 0)) a2) n2
      have u6 := same_upd (o := ExO (.ref (L.getD 23 0)) a3) n3
      have u7 := same_upd (o := .lst [.ref a1, .ref a2, .ref a3]) m4
      have u37 := u4.trans (u5.trans (u6.trans u7))
      refine ⟨l3, l4, _, _, rfl, rfl, u37 _ _ upd_same, upd_same, ?_, fun le me => ?_⟩
      · rw [List.length_append, List.length_map, List.length_map, len1, len2]
        show 24 ≤ sizeLine
        decide
      have u8 := same_upd (o := .lst (as1.map V.ref ++ as2.map V.ref ++ [.ref a1, .ref a2, .ref a3])) me
      generalize hHe : upd _ le (.lst (as1.map V.ref ++ as2.map V.ref ++ [.ref a1, .ref a2, .ref a3])) = He at u8
      have hL : He le = some (.lst (((as1 ++ as2) ++ [a1, a2, a3]).map V.ref)) := by
        rw [← hHe, upd_same, List.map_append, List.map_append]
        rfl
      have hX : ∀ i, i < 24 → ExI He (((as1 ++ as2) ++ [a1, a2, a3]).getD i 0) (L.getD i 0) :=
        get3 len1 len2 (fun i a => ExI He a (L.getD i 0)) (fun i hi => (x3 i hi).same (s4.trans (u3.trans (u37.trans u8)))) (fun i hi => (x4 i hi).same (u3.trans (u37.trans u8)))
          (ExI.same (.inl upd_same) (u5.trans (u6.trans (u7.trans u8)))) (ExI.same (.inl upd_same) (u6.trans (u7.trans u8))) (ExI.same (.inl upd_same) (u7.trans u8))
      have hlen24 : ((as1 ++ as2) ++ [a1, a2, a3]).length = 24 := by
        rw [List.length_append, List.length_append, len1, len2]
        rfl
      generalize (as1 ++ as2) ++ [a1, a2, a3] = as at hL hX hlen24
      -- if len(errors) != 24
      refine ⟨_, rfl, le, _, rfl, .inl (.inl (.inl hL)), rfl, _, rfl, iteNS (by rw [List.length_map, hlen24]; rfl) ?_⟩
      -- for at in range(24)
      refine ⟨_, rfl, by decide, by decide, for_range (fun j σ H' => ∃ v6 v8 : Option V, σ = [some (.ref a), some (.int (0 + i)), some (.ref p), some (.str (Str.ofString (toString z))), some (.int (c - 1)), some (.ref le), v6, v7, v8] ∧ Same He H') ⟨_, _, rfl, Same.refl _⟩ ?_ ?_⟩
      · rintro j σ H' hj ⟨v6, v8, rfl, s5⟩
        have hj : j < 24 := hj
        have hL' := s5 _ _ hL
        have hXj := (hX j hj).same s5
        have hat : ∀ {H : Hp}, H le = some (.lst (as.map V.ref)) → SqL K H le (as.map V.ref) ∧ atI (as.map V.ref) (0 + (j : Int)) = some (V.ref (as.getD j 0)) := fun h => ⟨.inl (.inl h), at_of (j := j) (by omega) (by
          rw [List.getElem?_map, List.getD_eq_getElem?_getD, List.getElem?_eq_getElem (show j < as.length by omega)]
          rfl)⟩
        refine ⟨_, rfl, _, rfl, le, _, _, _, rfl, rfl, (hat hL').1, (hat hL').2, as.getD j 0, L.getD j 0, fun k => decide (j = k), rfl, hXj, T.x j hj, fun k hk => T.m j k hj hk, fun H5 mp s6 n6 e6 => ?_⟩
        -- [at == other for other in range(24)]
        refine ⟨_, rfl, by decide, by decide, fun D nD => lc_range (fun k H6 => Same H5 H6 ∧ H6 D = some (.lst ((List.range k).map fun k' => V.bl (decide (j = k'))))) ⟨same_upd nD, upd_same⟩ ?_ ?_⟩
        · rintro k H6 hk ⟨s7, e7⟩
          have hk : k < 24 := hk
          refine ⟨rfl, ?_⟩
          refine tyes ?_
          refine ⟨_, rfl, _, rfl, rfl, _, e7, by rw [List.length_map, List.length_range]; exact Nat.lt_trans hk (by decide), ?_, ?_⟩
          · exact fun b o e => by
              rw [upd_ne (ne_of_none e nD)]
              exact s7 _ _ e
          · rw [upd_same, List.range_succ, List.map_append]
            have e : (decide (V.int (0 + (j : Int)) = V.int (0 + (k : Int)))) = decide (j = k) := by
              by_cases h : j = k
              · subst h
                simp
              · rw [decide_eq_false h]
                refine decide_eq_false fun z => ?_
                have := V.int.inj z
                omega
            rw [e]
            rfl
        · rintro H6 ⟨s7, e7⟩
          have dm : Dp K H6 (.ref mp) (dB fun k => decide (j = k)) := .lst (.inl (.inl (s7 _ _ e6))) (dp_bools _ _)
          have dD : Dp K H6 (.ref D) (dB fun k => decide (j = k)) := .lst (.inl (.inl e7)) (dp_bools _ _)
          refine ⟨_, _, dm, dD, dB_shaped _, dB_shaped _, _, rfl, not_eqv (dB_shaped _) ?_⟩
          -- isinstance .. MixError, ValueError
          have s8 := s6.trans s7
          have hL8 := s8 _ _ hL'
          refine ⟨_, rfl, _, rfl, le, _, _, _, rfl, rfl, (hat hL8).1, (hat hL8).2, as.getD j 0, L.getD j 0, _, _, _, rfl, .own _, hXj.same s8, T.x j hj, T.mm j hj, _, rfl, iteF ?_⟩
          refine ⟨_, rfl, _, rfl, le, _, _, _, rfl, rfl, (hat hL8).1, (hat hL8).2, as.getD j 0, L.getD j 0, _, _, _, rfl, .ty _, hXj.same s8, T.x j hj, T.mv j hj, _, rfl, iteF ?_⟩
          exact ⟨_, _, rfl, s5.trans s8⟩
      · rintro σ H' ⟨v6, v8, rfl, s5⟩
        -- base
        refine ⟨_, rfl, fun ba nb => ?_⟩
        have w1 := same_upd (o := ExO (.ref M) ba) nb
        have hb : ExI (upd H' ba (ExO (.ref M) ba)) ba M := .inl upd_same
        refine ⟨_, rfl, ba, M, _, _, _, rfl, .ty _, hb, T.xM, T.bv, _, rfl, iteF ?_⟩
        refine ⟨_, rfl, ba, M, fun _ => false, rfl, hb, T.xM, fun j hj => T.mb j hj, fun H5 mp s6 n6 e6 => ?_⟩
        have dm : Dp K H5 (.ref mp) (dB fun _ => false) := .lst (.inl (.inl e6)) (dp_bools _ _)
        refine ⟨_, _, .bl true, dm, by decide, dB_shaped _, _, rfl, iteF ?_⟩
        refine ⟨_, rfl, _, rfl, z, c - 1, rfl, hz0, hz9, by omega, by omega, fun H6 s7 => ⟨_, rfl, iteF ?_⟩⟩
        have sp : Same H0 (upd (upd H1 p (.lst [.int x1, .int y, .int (0 + 1)])) p (.lst [.int x2, .int y, .int (1 + 1)])) := fun b o e => by
          rw [upd_ne (ne_of_none e np), upd_ne (ne_of_none e np)]
          exact s1 _ _ e
        exact ⟨_, _, _, _, _, _, _, _, rfl, s0.trans (sp.trans (s3.trans (s4.trans (u3.trans (u37.trans (u8.trans (s5.trans (w1.trans (s6.trans s7)))))))))⟩
    · rintro σ H' ⟨v1, v2, v3, v4, v5, v6, v7, v8, rfl, s0⟩
      exact q _
end
end K0
namespace K0
open PySem PySem.Spec PyProof.Rows L2
/-! ### what the top has written, asked all at once -/
abbrev exBm : List Value := [.type "ValueError", .type "Exception", .type "BaseException", .type "object"]
def chkG (K : PySem.W.Frag) (L : List Addr) : Bool := (List.range 24).all fun i => PySem.W.nsIn K mainGlobals (cn.getD i "") == some (some (.ref (L.getD i 0)))
def chkM (K : PySem.W.Frag) (L : List Addr) : Bool := (List.range 24).all fun i => (List.range 24).all fun j => PySem.W.kitOne K (.ref (L.getD i 0)) (.ref (L.getD j 0)) == some (decide (i = j))
def chkB (K : PySem.W.Frag) (L : List Addr) (M : Addr) : Bool := (List.range 24).all fun i => PySem.W.kitOne K (.ref M) (.ref (L.getD i 0)) == some false && PySem.W.kitOne K (.ref (L.getD i 0)) (.ref M) == some true && PySem.W.kitOne K (.ref (L.getD i 0)) (.type "ValueError") == some true
def chkC (K : PySem.W.Frag) (C : Addr) : Bool := (PySem.W.clsIn K C).isSome && PySem.W.findIn K (.ref C) "__getattribute__" == some (some (.builtin "BaseException.__getattribute__")) && PySem.W.findIn K (.ref C) "__getattr__" == some none && PySem.W.subIn K (.ref C) (.type "BaseException") == some true && PySem.W.findIn K (.ref C) "__class__" == some (some (.builtin "object.__class__")) && PySem.W.mroIn K C (.type "object") == some true
def chkE (K : PySem.W.Frag) (C : Addr) : Bool := PySem.W.excIn K C exBm "ValueError.__new__" && PySem.W.keepIn K (.ref C)
def chkEs (K : PySem.W.Frag) (L : List Addr) : Bool := (List.range 24).all fun i => (i == 1 || i == 10 || i == 11) || chkE K (L.getD i 0)
theorem all_lt {n : Nat} {p : Nat → Bool} (h : (List.range n).all p = true) {i : Nat} (hi : i < n) : p i = true := List.all_eq_true.mp h i (List.mem_range.mpr hi)
theorem chkC_mk {K : PySem.W.Frag} {C : Addr} (h : chkC K C = true) : XisT K C := by
  unfold chkC at h
  simp only [Bool.and_eq_true, beq_iff_eq] at h
  obtain ⟨⟨⟨⟨⟨h1, h2⟩, h3⟩, h4⟩, h5⟩, h6⟩ := h
  exact ⟨h1, h2, h3, h4, h5, h6⟩
theorem txt_mk {K : PySem.W.Frag} {h : Heap} {mg : Str → Option Value} {L : List Addr} {M : Addr} (X : K.In h) (G : h.Ns mainGlobals mg) (g : chkG K L = true) (gM : PySem.W.nsIn K mainGlobals "MixError" = some (some (.ref M)))
    (m : chkM K L = true) (b : chkB K L M = true) (bv : PySem.W.kitOne K (.ref M) (.type "ValueError") = some true) (x : (List.range 24).all (fun i => chkC K (L.getD i 0)) = true) (xM : chkC K M = true)
    (gt : PySem.W.specialIn K (.builtin "object.__class__") "__get__" = some (some (.builtin "getset_descriptor.__get__"))) (tk : PySem.W.takesIn K (.builtin "object.__class__") = some true) : Txt K mg L M where
  g := fun i hi => PySem.W.mg_of X G (beq_iff_eq.mp (all_lt g hi))
  gM := PySem.W.mg_of X G gM
  m := fun i j hi hj => beq_iff_eq.mp (all_lt (all_lt m hi) hj)
  mb := fun j hj => by
    have z := all_lt b hj
    simp only [Bool.and_eq_true, beq_iff_eq] at z
    exact z.1.1
  mm := fun j hj => by
    have z := all_lt b hj
    simp only [Bool.and_eq_true, beq_iff_eq] at z
    exact z.1.2
  mv := fun j hj => by
    have z := all_lt b hj
    simp only [Bool.and_eq_true, beq_iff_eq] at z
    exact z.2
  bv := bv
  x := fun i hi => chkC_mk (all_lt x hi)
  xM := chkC_mk xM
  o := ⟨gt, tk⟩
end K0
namespace PySem
namespace OwnX
open PySem.W PySem.Calls PyProof.Rows PySem.HandSPX
theorem own_mk {P : Program} {K : PySem.W.Frag} {f pre qual nm q file : Str} {C fI N cda cc : Addr} {bs bm : List Value} {sn : List Str} {sub : List Value} {ab : Bool} {col : Option Bool} {dd od an cdd cld : Option Addr} {k0 k1 k2 k3 k5 : Option Value} {oc kV doc pm ct ccl cl : Value} {osl ccs csl : Array (Option Value)} {vs : Array Value} {tf : Tok}
    {p1 p2 q0 q1 q2 q3 q4 q5 q6 q7 q8 q9 qa qb qc : Pos} (xC : K.lookup C = some (excClassObj nm qn C N bs bm true sn sub ab col dd k0 k1 k2 k3 k5 "ValueError.__new__")) (xb : refsVE bm = true)
    (sa : PySem.W.findIn K (.ref C) "__setattr__" = some (some (.builtin "object.__setattr__"))) (nn : PySem.W.findIn K (.ref C) f = some none) (iC : PySem.W.findIn K (.ref C) "__init__" = some (some (.ref fI))) (tC : PySem.W.typeIn K (.ref fI) = some (.type "function")) (kC : PySem.W.keepIn K (.ref C) = true)
    (lk : K.lookup fI = some ⟨oc, od, .func (ksFn "__init__" qual (PySem.OwnX.iA f p1 p2) (PySem.OwnX.iB f pre q0 q1 q2 q3 q4 q5 q6 q7 q8 q9 qa qb qc) (PySem.OwnX.iS f) .none kV doc pm an (.ref cda) ct cc), osl⟩) (cd : PySem.W.codeIn K (.ref cda) qual = true) (qq : (q2.endLine == q7.line) = true)
    (lc : K.lookup cda = some ⟨ccl, cdd, .fields vs, ccs⟩) (lv : vs[2]? = some (.str file tf)) (lf : ((P.main.file : Str) == file) = true) (ll : K.lookup cc = some ⟨cl, cld, .cell (some (.ref C)), csl⟩)
    (su : ks_superIn K C C "__init__" = some (some (.builtin "ValueError.__init__"))) (iB : PySem.W.subIn K (.ref C) (.type "ValueError") = some true) (mC : PySem.W.mroIn K C (.ref C) = some true) (ay : PySem.W.nsIn K cStatics "thirdparty.any" = some none)
    (tp : (P.main.scope.names.lookup ("super" : Str)).isSome = false) (fs : ("self" == f) = false) (fd : (f == ("__debug__" : Str)) = false) (ff : (PySem.OwnX.iS f).names.lookup f = some .local) (ks : (PySem.OwnX.iS f).names.lookup ("super" : Str) = some .globalImplicit) (kc : (PySem.OwnX.iS f).names.lookup ("__class__" : Str) = some .free) (ke : (PySem.OwnX.iS f).names.lookup ("self" : Str) = some .local)
    (pl : pre.length ≤ 200) (bp : ∀ fd, PySem.OwnX.IsFd f pre qual fd → ∀ (s : Shared) (x : Addr) (v : Value), BindsTo s fd ⟨[.ref x, v], []⟩ [("self", .ref x), (f, v)]) (bk : ∀ fd, PySem.OwnX.IsFd f pre qual fd → ∀ (s : Shared) (x : Addr) (v : Value), BindsTo s fd ⟨[.ref x], [(f, v)]⟩ [("self", .ref x), (f, v)])
    (eC : PySem.W.subIn K (.ref C) (.type "BaseException") = some true) (ga : PySem.W.findIn K (.ref C) "__getattribute__" = some (some (.builtin "BaseException.__getattribute__"))) (gg : PySem.W.findIn K (.ref C) "__getattr__" = some none) (hd : PySem.W.hasDictIn K C = true) : PySem.OwnX.OwnT P K f pre qual C fI where
  cls := ⟨nm, qn, N, bs, bm, sn, sub, ab, col, dd, k0, k1, k2, k3, k5, xC, xb⟩
  sa := sa
  noN := nn
  iC := iC
  tC := tC
  kC := kC
  fn := ⟨oc, od, kV, doc, pm, an, cda, ct, cc, osl, p1, p2, q0, q1, q2, q3, q4, q5, q6, q7, q8, q9, qa, qb, qc, lk, cd, qq, ⟨ccl, cdd, vs, ccs, file, tf, lc, lv, lf⟩, ⟨cl, cld, csl, ll⟩⟩
  sup := su
  isB := iB
  isC := mC
  any := ay
  top := tp
  fs := fs
  fd := fd
  ff := ff
  ks := ks
  kc := kc
  ke := ke
  pl := pl
  bp := bp
  bk := bk
  exC := eC
  ga := ga
  gg := gg
  hdC := hd
end OwnX
end PySem
namespace K0
open PySem PySem.Spec PyProof.Rows L2
abbrev ad : List Addr := [37, 58, 70, 82, 94, 106, 118, 130, 142, 154, 175, 196, 208, 220, 232, 244, 256, 268, 280, 292, 304, 316, 328, 340]
theorem all_mk {P : Program} {w : World} {K : PySem.W.Frag} {h : Heap} {mg : Str → Option Value} {fa fB fN fG f0 f1 f2 f3 f4 f5 f6 : Addr} (X : K.In h) (G : h.Ns mainGlobals mg) (hfa : mg "law" = some (.ref fa))
    {od0 an0 od1 an1 od2 an2 od3 an3 od4 an4 od5 an5 od6 an6 : Option Addr} {sl0 sl1 sl2 sl3 sl4 sl5 sl6 : Array (Option Value)} {oc0 kV0 dc0 pm0 cd0 ct0 oc1 kV1 dc1 pm1 cd1 ct1 oc2 kV2 dc2 pm2 cd2 ct2 oc3 kV3 dc3 pm3 cd3 ct3 oc4 kV4 dc4 pm4 cd4 ct4 oc5 kV5 dc5 pm5 cd5 ct5 oc6 kV6 dc6 pm6 cd6 ct6 : Value}
    (g : chkG K ad = true) (gM : PySem.W.nsIn K mainGlobals "MixError" = some (some (.ref 24))) (m : chkM K ad = true) (b : chkB K ad 24 = true) (bv : PySem.W.kitOne K (.ref 24) (.type "ValueError") = some true) (x : (List.range 24).all (fun i => chkC K (ad.getD i 0)) = true) (xM : chkC K 24 = true)
    (gt : PySem.W.specialIn K (.builtin "object.__class__") "__get__" = some (some (.builtin "getset_descriptor.__get__"))) (tk : PySem.W.takesIn K (.builtin "object.__class__") = some true)
    (es : chkEs K ad = true) (eM : chkE K 24 = true) (oB : PySem.OwnX.OwnT P K "place" "the text can not go on at " "BadText.__init__" 58 fB) (oN : PySem.OwnX.OwnT P K "what" "the program is not let by: " "NotLetBy.__init__" 175 fN) (oG : PySem.OwnX.OwnT P K "where" "the parents are not in order: " "BadProgram.__init__" 196 fG)
    (a0 : PySem.W.nsIn K mainGlobals "_law_pool" = some (some (.ref f0))) (l0 : K.lookup f0 = some ⟨oc0, od0, .func (PySem.W.fnOf "_law_pool" "_law_pool" (defArgs sPool) (defBody sPool) (defScope sPool) .none kV0 dc0 pm0 an0 cd0 ct0), sl0⟩) (c0 : PySem.W.codeIn K cd0 "_law_pool" = true) (k0 : PySem.W.keepIn K (.ref f0) = true)
    (a1 : PySem.W.nsIn K mainGlobals "_law_pick" = some (some (.ref f1))) (l1 : K.lookup f1 = some ⟨oc1, od1, .func (PySem.W.fnOf "_law_pick" "_law_pick" (defArgs sPick) (defBody sPick) (defScope sPick) .none kV1 dc1 pm1 an1 cd1 ct1), sl1⟩) (c1 : PySem.W.codeIn K cd1 "_law_pick" = true) (k1 : PySem.W.keepIn K (.ref f1) = true)
    (a2 : PySem.W.nsIn K mainGlobals "_law_marks" = some (some (.ref f2))) (l2 : K.lookup f2 = some ⟨oc2, od2, .func (PySem.W.fnOf "_law_marks" "_law_marks" (defArgs sMarks) (defBody sMarks) (defScope sMarks) .none kV2 dc2 pm2 an2 cd2 ct2), sl2⟩) (c2 : PySem.W.codeIn K cd2 "_law_marks" = true) (k2 : PySem.W.keepIn K (.ref f2) = true)
    (a3 : PySem.W.nsIn K mainGlobals "_law_first" = some (some (.ref f3))) (l3 : K.lookup f3 = some ⟨oc3, od3, .func (PySem.W.fnOf "_law_first" "_law_first" (defArgs sFirst) (defBody sFirst) (defScope sFirst) .none kV3 dc3 pm3 an3 cd3 ct3), sl3⟩) (c3 : PySem.W.codeIn K cd3 "_law_first" = true) (k3 : PySem.W.keepIn K (.ref f3) = true)
    (a4 : PySem.W.nsIn K mainGlobals "_law_second" = some (some (.ref f4))) (l4 : K.lookup f4 = some ⟨oc4, od4, .func (PySem.W.fnOf "_law_second" "_law_second" (defArgs sSecond) (defBody sSecond) (defScope sSecond) .none kV4 dc4 pm4 an4 cd4 ct4), sl4⟩) (c4 : PySem.W.codeIn K cd4 "_law_second" = true) (k4 : PySem.W.keepIn K (.ref f4) = true)
    (a5 : PySem.W.nsIn K mainGlobals "_law_fields" = some (some (.ref f5))) (l5 : K.lookup f5 = some ⟨oc5, od5, .func (PySem.W.fnOf "_law_fields" "_law_fields" (defArgs sFields) (defBody sFields) (defScope sFields) .none kV5 dc5 pm5 an5 cd5 ct5), sl5⟩) (c5 : PySem.W.codeIn K cd5 "_law_fields" = true) (k5 : PySem.W.keepIn K (.ref f5) = true)
    (a6 : PySem.W.nsIn K mainGlobals "law" = some (some (.ref f6))) (l6 : K.lookup f6 = some ⟨oc6, od6, .func (PySem.W.fnOf "law" "law" (defArgs sLaw) (defBody sLaw) (defScope sLaw) .none kV6 dc6 pm6 an6 cd6 ct6), sl6⟩) (c6 : PySem.W.codeIn K cd6 "law" = true) (k6 : PySem.W.keepIn K (.ref f6) = true)
    (z0 : PySem.W.nsIn K mainGlobals "range" = some none) (z1 : PySem.W.nsIn K mainGlobals "min" = some none) (z2 : PySem.W.nsIn K mainGlobals "max" = some none) (z3 : PySem.W.nsIn K mainGlobals "len" = some none) (z4 : PySem.W.nsIn K mainGlobals "sum" = some none) (z5 : PySem.W.nsIn K mainGlobals "int" = some none) (z6 : PySem.W.nsIn K mainGlobals "str" = some none) (z7 : PySem.W.nsIn K mainGlobals "isinstance" = some none) (z8 : PySem.W.nsIn K mainGlobals "ValueError" = some none) (z9 : PySem.W.nsIn K mainGlobals "super" = some none) :
    ∃ fd : FuncData, (∀ (s : Shared) (v : Value), BindsTo s fd ⟨[v], []⟩ [("_law_script", v)]) ∧ ∀ base : Heap, K.In base → base.Ns mainGlobals mg → FnOk P w K mg base CX0 3 fa fd ["_law_script"] (spLaw K) := by
  have e := hfa.symm.trans (PySem.W.mg_of X G a6)
  cases e
  have T : Txt K mg ad 24 := txt_mk X G g gM m b bv x xM gt tk
  have hE : ∀ C, chkE K C = true → PySem.W.excIn K C exBm "ValueError.__new__" = true ∧ PySem.W.keepIn K (.ref C) = true := fun C h => by
    unfold chkE at h
    exact Bool.and_eq_true_iff.mp h
  have mk : Mk P K mg ad 24 fB fN fG :=
    { sup := PySem.W.mg_none_of X G z9, b := oB, n := oN, p := oG, eM := hE _ eM, e := fun i hi hn => hE _ (by
        have z := all_lt es hi
        rw [hn, Bool.false_or] at z
        exact z) }
  have F0 := fun_mk (st := sPool) l0 c0 k0
  have F1 := fun_mk (st := sPick) l1 c1 k1
  have F2 := fun_mk (st := sMarks) l2 c2 k2
  have F3 := fun_mk (st := sFirst) l3 c3 k3
  have F4 := fun_mk (st := sSecond) l4 c4 k4
  have F5 := fun_mk (st := sFields) l5 c5 k5
  have F6 := fun_mk (st := sLaw) l6 c6 k6
  have b0 := F0.binds (ps := ["_law_script", "_law_k"]) fun _ _ _ _ _ _ us hl => match us, hl with | [_, _], _ => rfl
  have b1 := F1.binds (ps := ["_law_pool_here", "_law_many"]) fun _ _ _ _ _ _ us hl => match us, hl with | [_, _], _ => rfl
  have b2 := F2.binds (ps := ["_law_e"]) fun _ _ _ _ _ _ us hl => match us, hl with | [_], _ => rfl
  have b3 := F3.binds (ps := ["_law_text", "_law_number"]) fun _ _ _ _ _ _ us hl => match us, hl with | [_, _], _ => rfl
  have b4 := F4.binds (ps := ["_law_text", "_law_number"]) fun _ _ _ _ _ _ us hl => match us, hl with | [_, _], _ => rfl
  have b5 := F5.binds (ps := ["_law_text", "_law_number"]) fun _ _ _ _ _ _ us hl => match us, hl with | [_, _], _ => rfl
  have gs : Gs mg f0 f1 f2 f3 f4 f5 :=
    { pool := PySem.W.mg_of X G a0, pick := PySem.W.mg_of X G a1, marks := PySem.W.mg_of X G a2, first := PySem.W.mg_of X G a3, second := PySem.W.mg_of X G a4, fields := PySem.W.mg_of X G a5, range := PySem.W.mg_none_of X G z0, min := PySem.W.mg_none_of X G z1, max := PySem.W.mg_none_of X G z2, len := PySem.W.mg_none_of X G z3, sum := PySem.W.mg_none_of X G z4, int := PySem.W.mg_none_of X G z5, str := PySem.W.mg_none_of X G z6, isi := PySem.W.mg_none_of X G z7, ve := PySem.W.mg_none_of X G z8 }
  exact ⟨PySem.W.fnOf "law" "law" (defArgs sLaw) (defBody sLaw) (defScope sLaw) .none kV6 dc6 pm6 an6 cd6 ct6, fun s v => .of_eq rfl, fun base _ _ => ok_law F6 T mk gs F0 b0 F1 b1 F2 b2 F3 b3 F4 b4 F5 b5⟩
end K0
open PySem PySem.W PyProof.Rows
set_option maxRecDepth 100000 in
set_option maxHeartbeats 8000000 in
open_top hd for PySem.Challenge.rw_linearmix_k00_error_classes
set_option maxRecDepth 100000 in
set_option maxHeartbeats 8000000 in
theorem PySem.Challenge.cw_linearmix_k00_error_classes_holds : PySem.Challenge.rw_linearmix_k00_error_classes.Holds :=
  hd (by
    k_fill
    refine L2.walk_of (l := PySem.Challenge.rw_linearmix_k00_error_classes) (n := 63) (k := 3) (x := "_law_script") (CX := fun _ => L2.CX0) (sp := fun w => K0.spLaw _) rfl (by decide) rfl ⟨rfl, by decide, by decide⟩ (fun w h Y => PySem.W.kIn_of Y) ?F (fun _ _ a ns hl _ hS => ⟨a, ns, rfl, hS, hl, fun _ => rfl⟩) (fun _ _ _ _ _ h => h)
    case F =>
      intro w mg fa h KX G hmg
      refine' K0.all_mk KX G hmg ?g ?gM ?m ?b ?bv ?x ?xM ?gt ?tk ?es ?eM ?oB ?oN ?oG ?a0 ?l0 ?c0 ?k0 ?a1 ?l1 ?c1 ?k1 ?a2 ?l2 ?c2 ?k2 ?a3 ?l3 ?c3 ?k3 ?a4 ?l4 ?c4 ?k4 ?a5 ?l5 ?c5 ?k5 ?a6 ?l6 ?c6 ?k6 ?z0 ?z1 ?z2 ?z3 ?z4 ?z5 ?z6 ?z7 ?z8 ?z9
      (case g => kernel_rfl); (case gM => k_is); (case m => kernel_rfl); (case b => kernel_rfl); (case bv => kernel_rfl); (case x => kernel_rfl); (case xM => kernel_rfl); (case gt => k_is); (case tk => k_is); (case es => kernel_rfl); (case eM => kernel_rfl)
      case oB =>
        refine' PySem.OwnX.own_mk ?xC ?xb ?sa ?nn ?iC ?tC ?kC ?lk ?cd ?qq ?lc ?lv ?lf ?ll ?su ?iB ?mC ?ay ?tp ?fs ?fd ?ff ?ks ?kc ?ke ?pl ?bp ?bk ?eC ?ga ?gg ?hd
        (case xC => k_is); (case xb => rfl); (case sa => k_is); (case nn => k_is); (case iC => k_is); (case tC => k_is); (case kC => k_is)
        (case lk => k_is); (case cd => k_is); (case qq => rfl); (case lc => k_is); (case lv => rfl); (case lf => first | rfl | decide +kernel); (case ll => k_is)
        (case su => kernel_rfl); (case iB => k_is); (case mC => k_is); (case ay => k_is); (case tp => first | rfl | decide +kernel)
        (case fs => decide); (case fd => decide); (case ff => first | rfl | decide +kernel); (case ks => first | rfl | decide +kernel); (case kc => first | rfl | decide +kernel); (case ke => first | rfl | decide +kernel)
        (case pl => decide)
        (case bp => (intro fd h s x v; obtain ⟨kV, doc, pm, an, cda, ct, cc, p1, p2, q0, q1, q2, q3, q4, q5, q6, q7, q8, q9, qa, qb, qc, rfl⟩ := h; exact .of_eq rfl))
        (case bk => (intro fd h s x v; obtain ⟨kV, doc, pm, an, cda, ct, cc, p1, p2, q0, q1, q2, q3, q4, q5, q6, q7, q8, q9, qa, qb, qc, rfl⟩ := h; exact .of_eq rfl))
        (case eC => k_is); (case ga => k_is); (case gg => k_is); (case hd => k_is); (all_goals exact Str.empty)
      case oN =>
        refine' PySem.OwnX.own_mk ?xC ?xb ?sa ?nn ?iC ?tC ?kC ?lk ?cd ?qq ?lc ?lv ?lf ?ll ?su ?iB ?mC ?ay ?tp ?fs ?fd ?ff ?ks ?kc ?ke ?pl ?bp ?bk ?eC ?ga ?gg ?hd
        (case xC => k_is); (case xb => rfl); (case sa => k_is); (case nn => k_is); (case iC => k_is); (case tC => k_is); (case kC => k_is)
        (case lk => k_is); (case cd => k_is); (case qq => rfl); (case lc => k_is); (case lv => rfl); (case lf => first | rfl | decide +kernel); (case ll => k_is)
        (case su => kernel_rfl); (case iB => k_is); (case mC => k_is); (case ay => k_is); (case tp => first | rfl | decide +kernel)
        (case fs => decide); (case fd => decide); (case ff => first | rfl | decide +kernel); (case ks => first | rfl | decide +kernel); (case kc => first | rfl | decide +kernel); (case ke => first | rfl | decide +kernel)
        (case pl => decide)
        (case bp => (intro fd h s x v; obtain ⟨kV, doc, pm, an, cda, ct, cc, p1, p2, q0, q1, q2, q3, q4, q5, q6, q7, q8, q9, qa, qb, qc, rfl⟩ := h; exact .of_eq rfl))
        (case bk => (intro fd h s x v; obtain ⟨kV, doc, pm, an, cda, ct, cc, p1, p2, q0, q1, q2, q3, q4, q5, q6, q7, q8, q9, qa, qb, qc, rfl⟩ := h; exact .of_eq rfl))
        (case eC => k_is); (case ga => k_is); (case gg => k_is); (case hd => k_is); (all_goals exact Str.empty)
      case oG =>
        refine' PySem.OwnX.own_mk ?xC ?xb ?sa ?nn ?iC ?tC ?kC ?lk ?cd ?qq ?lc ?lv ?lf ?ll ?su ?iB ?mC ?ay ?tp ?fs ?fd ?ff ?ks ?kc ?ke ?pl ?bp ?bk ?eC ?ga ?gg ?hd
        (case xC => k_is); (case xb => rfl); (case sa => k_is); (case nn => k_is); (case iC => k_is); (case tC => k_is); (case kC => k_is)
        (case lk => k_is); (case cd => k_is); (case qq => rfl); (case lc => k_is); (case lv => rfl); (case lf => first | rfl | decide +kernel); (case ll => k_is)
        (case su => kernel_rfl); (case iB => k_is); (case mC => k_is); (case ay => k_is); (case tp => first | rfl | decide +kernel)
        (case fs => decide); (case fd => decide); (case ff => first | rfl | decide +kernel); (case ks => first | rfl | decide +kernel); (case kc => first | rfl | decide +kernel); (case ke => first | rfl | decide +kernel)
        (case pl => decide)
        (case bp => (intro fd h s x v; obtain ⟨kV, doc, pm, an, cda, ct, cc, p1, p2, q0, q1, q2, q3, q4, q5, q6, q7, q8, q9, qa, qb, qc, rfl⟩ := h; exact .of_eq rfl))
        (case bk => (intro fd h s x v; obtain ⟨kV, doc, pm, an, cda, ct, cc, p1, p2, q0, q1, q2, q3, q4, q5, q6, q7, q8, q9, qa, qb, qc, rfl⟩ := h; exact .of_eq rfl))
        (case eC => k_is); (case ga => k_is); (case gg => k_is); (case hd => k_is); (all_goals exact Str.empty)
      (case a0 => k_is); (case l0 => k_is); (case c0 => k_is); (case k0 => k_is)
      (case a1 => k_is); (case l1 => k_is); (case c1 => k_is); (case k1 => k_is)
      (case a2 => k_is); (case l2 => k_is); (case c2 => k_is); (case k2 => k_is)
      (case a3 => k_is); (case l3 => k_is); (case c3 => k_is); (case k3 => k_is)
      (case a4 => k_is); (case l4 => k_is); (case c4 => k_is); (case k4 => k_is)
      (case a5 => k_is); (case l5 => k_is); (case c5 => k_is); (case k5 => k_is)
      (case a6 => k_is); (case l6 => k_is); (case c6 => k_is); (case k6 => k_is)
      (case z0 => k_is); (case z1 => k_is); (case z2 => k_is); (case z3 => k_is); (case z4 => k_is); (case z5 => k_is); (case z6 => k_is); (case z7 => k_is); (case z8 => k_is); (case z9 => k_is))
