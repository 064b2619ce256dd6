import PyProof.Rows.All
import Wide.All
import OpenK.AllK
import Wide.FinOn
import HandS.Base
import HandS.Call
import HandS.List
import HandS.Comp
import HandS.Ends
import HandS.Words
import PyProof.StrBlock2
import HandS.ForMost
import HandS.ForExc
import HandS.TupAny
import HandS.StrMore
import HandS.IsInst
import HandS.Property
import HandS.Conv
import HandS.Style
import HandS.Wide
import HandS.Deep
import KE.KRevSl
import HandS.Walk
import KE.GoesZip
import KE.GoesMore
import PySem.Challenge.RW_fewersteps_k00_names_signs_and_streams_j
import KE.KStrOpen
import HandS.DictComp
import HandS.WordsExc
import HandS.Exc
import HandS.ExcOwn
import HandS.TryOnly
set_option Elab.async false
set_option linter.all false
set_option maxRecDepth 100000
set_option maxHeartbeats 4000000
/-! Promises of defs that are called only where no repr is under way: G. -/
namespace G
open PySem PySem.Spec PyProof.Rows L2
/-- where nothing that repr guards against is under way -/
def Quiet (A : Around) : Prop := A.guards = some []
/-- a def's promise where all is quiet -/
structure FnG (P : Program) (w : World) (K : PySem.W.Frag) (mg : Str → Option Value) (base : Heap) (CX : CXT) (k : Nat) (f : Addr) (fd : FuncData) (ps : List Str) (sp : Sp) : Prop where
  many : ∀ vs H Q E, sp vs H Q E → vs.length = ps.length
  go : ∀ (A : Around), Quiet A → Room k A → ∀ (outer : List Env) (s : Shared) (H : Hp), Env0 P w K mg base A outer s H →
    ∀ (args : Args) (us : List Value) (vs : List V), Vals vs us → BindsTo s fd args (ps.zip us) →
    ∀ (Q : VK) (E : XK), sp vs H Q E → codeAny (model P w) A (.call (.ref f) args) (CR CX outer P w H s Q E) s
section
variable {P : Program} {w : World} {K : PySem.W.Frag} {mg : Str → Option Value} {base : Heap} {CX : CXT} {k : Nat} {f : Addr} {fd : FuncData} {ps : List Str} {sp : Sp}
theorem quiet_deeper {A : Around} (h : Quiet A) (env : Env) : Quiet (A.deeper env) := h
/-- from the body's derivation to the promise -/
theorem of_body {x qual : Str} {st : Stmt} {N : List Str} (F : Fun K x qual st f fd) (S : FnScope N ps (defScope st)) (many : ∀ vs H Q E, sp vs H Q E → vs.length = ps.length)
    (body : ∀ (cdv : Value) (A : Around), Quiet A → ∀ (outer : List Env) (s : Shared) (H : Hp) (vs : List V) (Q : VK) (E : XK), Room k (A.deeper (envOfC qual (defScope st) s.heap.objs.size f cdv)) → sp vs H Q E →
      ∃ t, PSs (cxOf CX P w K mg base N qual (defScope st) f cdv A outer s H E) (defBody st) t ∧ t { nx := fun _ H1 => Q .non H1, rt := Q } (start N vs) H) :
    FnG P w K mg base CX (k + 1) f fd ps sp := by
  obtain ⟨oc, od, kV, doc, pm, an, cdv, ct, osl, rfl, look, code⟩ := F.ex
  refine ⟨many, ?_⟩
  intro A quiet room outer s H e args us vs rel bind Q E want
  have inK : K.In s.heap := e.mod.kin.keeps fun b o z => (e.bs b o z).1
  have noLim : s.heap.NoLimit := e.mod.nolimit.keeps fun b o z => (e.bs b o z).1
  have kinds : ∀ y ∈ ps.zip us, (defScope st).names.lookup y.1 = some .local ∨
      ((defScope st).names.lookup y.1 = some .cell ∧ ((cellsFrom (s.heap.objs.size + 1) (defScope st).names []).lookup y.1).isSome = true) := by
    rintro ⟨n, v⟩ mem
    cases S.par n (List.of_mem_zip mem).1 with
    | inl z => exact .inl z
    | inr z => exact .inr ⟨z, PySem.W.cellsFrom_some _ _ _ (.inl z)⟩
  refine codeAny_call_function room.depth (inK _ _ look) rfl S.co S.gen rfl
    (PySem.W.codeRec_of inK code) (bind _ _ _ _ ?_)
  refine wpAny_newFunctionEnv_cells S.kind kinds ?_
  intro env he s1 x
  subst he
  refine ⟨noLim.keeps x.toInCall.keep, codeAny_func ?_⟩
  obtain ⟨t, der, want2⟩ := body cdv A quiet outer s H vs Q E (room.deeper _) want
  have J : Inv (cxOf CX P w K mg base N qual (defScope st) f cdv A outer s H E) [] (start N vs) H s1 :=
    inv_start S room.hd e (many _ _ _ _ want) rel x
  refine wpAny_mono (der.run [] s1 (start N vs) H _ J want2) ?_ (fun _ _ z => z)
  intro fl s2 done
  cases fl with
  | brk =>
    obtain ⟨_, _, _, no⟩ := done
    exact False.elim no
  | cont =>
    obtain ⟨_, _, _, no⟩ := done
    exact False.elim no
  | next =>
    obtain ⟨σ1, H1, J1, q⟩ := done
    exact ⟨.non, H1, J1.os, J1.bare, J1.base, J1.hok, rfl, q⟩
  | ret u =>
    obtain ⟨v, σ1, H1, J1, rv, q⟩ := done
    exact ⟨v, H1, J1.os, J1.bare, J1.base, J1.hok, rv, q⟩
end
section
variable {X : Cx} {CX : CXT} {k : Nat} {f : Addr} {fd : FuncData} {ps : List Str} {sp : Sp} {E : XK} {x : Str} {p pos : Pos} {e : Expr} {es : List Expr} {t : TA}
/-- f(e, ..) of such a def, where all is quiet -/
theorem pe_callG (F : FnG X.prog X.w X.K X.mg X.base CX k f fd ps sp) (quiet : Quiet X.A) (room : Room k X.A) (hg : Gl X x) (hm : X.mg x = some (.ref f)) (kp : PySem.W.keepIn X.K (.ref f) = true)
    (bind : Binds X.K fd ps []) (pass : Passes CX X E) (ha : PA X (e :: es) t) (hdb : (x == ("__debug__" : Str)) = false := by decide)
    (st : starEach (e :: es) X.env = (false, eval e X.env) :: starEach es X.env := by rfl) (pl : (backTo pos (starEach es X.env)).any (·.1) = false := by rfl) :
    PE X (.Call (.Name x p) (e :: es) [] pos) (tCall sp [] E t) := by
  refine ⟨?_⟩
  intro pins s σ H Q I want
  refine wpAny_Call_Name_kw (ld_glob I hg hm ?_ hdb)
  refine PySem.W.callWith_K (h₀ := X.base) I.ok.mod.kin kp
    (thn (ha.run pos pins s σ H _ I want) ?_) st pl
  rintro us s1 ⟨vs, H1, I1, r, q⟩
  refine ⟨I1.kIn, ?_⟩
  rw [List.append_nil] at q
  have many : (us ++ []).length = ps.length := by
    rw [List.append_nil, ← r.length]
    exact F.many _ _ _ _ q
  have bd := bind s1 us I1.kIn many
  rw [List.append_nil] at bd
  refine wpAny_call (codeAny_mono (F.go X.A quiet room X.stack s1 H1 I1.env0 ⟨us, []⟩ us vs r bd Q E q) ?_)
  intro res s2 done
  cases res with
  | error er => exact pass pins σ H1 s1 er s2 I1 done
  | ok fl =>
    cases fl with
    | ret u => exact I1.after done
    | next => exact False.elim done
    | brk => exact False.elim done
    | cont => exact False.elim done
end
/-! ### the end: the law's own call -/
/-- the script, as the law's def finds it: known to the module's part, or a locked list -/
theorem law_call {P : Program} {w : World} {K : PySem.W.Frag} {mg mb : Str → Option Value} {CX : CXT} {k : Nat} {fa a : Addr} {fd : FuncData} {x : Str} {sp : Sp} {s : Shared} {vs : List Value} {ns : List Int}
    (inK : K.In s.heap) (glob : s.heap.Ns mainGlobals mg) (blt : s.heap.Ns builtinsNs mb) (same : ∀ y : Str, y ≠ "__name__" → mb y = bootBuiltins y) (noLim : s.heap.NoLimit) (gens : s.gens = #[])
    (at_a : s.heap.get? a = some { cls := .type "list", data := .seq vs.toArray }) (areInts : IntsAre vs ns) (short : ns.length ≤ sizeLine) (room : Room k callerA)
    (F : ∀ b : Heap, K.In b → b.Ns mainGlobals mg → FnG P w K mg b CX k fa fd [x] sp) (bind : ∀ (t : Shared) (u : Value), BindsTo t fd ⟨[u], []⟩ [(x, u)])
    (want : ∀ H : Hp, Only H → SqL K H a (ns.map V.int) → sp [.ref a] H (fun v _ => v = .bl true) (fun _ _ _ => False))
    (noExc : ∀ H e t, CX [] H s (fun _ _ _ => False) e t → False) :
    codeAny (model P w) callerA (.call (.ref fa) ⟨[.ref a], []⟩) (fun r t => r = .ok (.ret (.bool true)) ∧ OldK s.heap t.heap ∧ t.os = s.os ∧ AllBare t.gens) s := by
  have rel := vals_ints areInts
  have main : ∀ H : Hp, Only H → (∀ b, H b ≠ none → b = a ∧ K.lookup a = none) → HOk P w H s.heap → SqL K H a (ns.map V.int) →
      codeAny (model P w) callerA (.call (.ref fa) ⟨[.ref a], []⟩) (fun r t => r = .ok (.ret (.bool true)) ∧ OldK s.heap t.heap ∧ t.os = s.os ∧ AllBare t.gens) s := by
    intro H only there ok seq
    have isNone : ∀ b, (b = a → K.lookup a ≠ none) → H b = none := fun b z => Classical.byContradiction fun n => z (there b n).1 (there b n).2
    have dictNone : ∀ (b : Addr) (o : Obj) (es : Array DictEntry) (ep : Nat), s.heap.get? b = some o → o.data = .dict es ep → H b = none := by
      intro b o es ep e1 e2
      refine Classical.byContradiction fun n => ?_
      rw [(there b n).1, at_a] at e1
      rw [← Option.some.inj e1] at e2
      cases e2
    have nsH : ∀ (b : Addr) (m : Str → Option Value), s.heap.Ns b m → (hidT s.heap H).Ns b m := by
      rintro b m ⟨o, es, ep, e1, e2, r⟩
      exact ⟨o, es, ep, hidT_get e1 (dictNone b o es ep e1 e2), e2, r⟩
    have inB : K.In (hidT s.heap H) := by
      intro b o e1
      refine hidT_get (inK b o e1) (isNone b ?_)
      intro eb n
      rw [← eb, e1] at n
      cases n
    have lim : (hidT s.heap H).NoLimit := by
      obtain ⟨mc, h1, h2⟩ := noLim
      exact ⟨mc, nsH _ _ h1, h2⟩
    have env : Env0 P w K mg (hidT s.heap H) callerA [] s H :=
      { frames := rfl, mod := ⟨inB, nsH _ _ glob, ⟨mb, nsH _ _ blt, same⟩, lim⟩, bs := fun b o z => of_hidT z, bsz := Nat.le_of_eq (hidT_size _ _), funs := trivial,
        frf := fun b z => absurd (show b ∈ ([] : List Addr) from z) List.not_mem_nil, hok := ok, bare := .of_eq gens }
    refine codeAny_mono ((F _ inB (nsH _ _ glob)).go callerA rfl room [] s H env ⟨[.ref a], []⟩ [.ref a] [.ref a] (.cons rfl .nil) (bind s (.ref a)) _ _ (want H only seq)) ?_
    intro r t done
    cases r with
    | error e => exact (noExc H e t done).elim
    | ok fl =>
      cases fl with
      | next => exact False.elim done
      | brk => exact False.elim done
      | cont => exact False.elim done
      | ret u =>
        obtain ⟨v, H1, os, bare, un, ok1, ru, q⟩ := done
        have q1 : v = .bl true := q
        rw [q1] at ru
        have eu : u = Value.bool true := ru
        rw [eu]
        refine ⟨rfl, OldK.of_keep ?_, os, bare⟩
        intro b o e1
        cases hb : H b with
        | none => exact un.keep b o e1 hb (fun z => absurd (show b ∈ ([] : List Addr) from z) List.not_mem_nil) List.not_mem_nil
        | some u1 =>
          rcases only b with z | ⟨ob, ys, z⟩
          · rw [hb] at z
            cases z
          · obtain ⟨g1, _⟩ := ok b _ z
            obtain ⟨g2, _⟩ := ok1 b _ (un.frzs b ob _ z)
            rw [e1] at g1
            rw [Option.some.inj g1]
            exact g2
  have few : (ns.map V.int).length ≤ sizeLine := by
    rw [List.length_map]
    exact short
  have manyV : vs.toArray.size ≤ sizeLine := by
    rw [List.size_toArray, areInts.length]
    exact short
  cases look : K.lookup a with
  | some o =>
    have e1 := inK a o look
    rw [at_a] at e1
    have e2 := Option.some.inj e1
    rw [← e2] at look
    refine main (fun _ => none) (fun _ => .inl rfl) (fun b z => absurd rfl z) (fun b u z => nomatch (show (none : Option HO) = some u from z)) ?_
    exact .inr ⟨_, vs.toArray, _, look, rfl, rfl, rfl, manyV, rel⟩
  | none =>
    have at1 : ∀ b, (fun b => if b = a then some (HO.frz { cls := .type "list", data := .seq vs.toArray } (.lst (ns.map V.int))) else none) b ≠ none → b = a := by
      intro b z
      refine Classical.byContradiction fun n => z ?_
      show (if b = a then _ else none) = none
      rw [if_neg n]
    refine main _ (fun b => ?_) (fun b z => ⟨at1 b z, look⟩) ?_ (.inl (.inr ⟨{ cls := .type "list", data := .seq vs.toArray }, if_pos rfl⟩))
    · by_cases hb : b = a
      · exact .inr ⟨_, _, if_pos hb⟩
      · exact .inl (if_neg hb)
    · intro b u z
      have hb : b = a := at1 b (by rw [z]; exact fun n => nomatch n)
      rw [hb] at z ⊢
      have z2 := (if_pos rfl).symm.trans z
      have z3 := Option.some.inj z2
      rw [← z3]
      exact ⟨at_a, few, vs, _, rel, at_a⟩
/-- what k_head leaves, from the law's promise where all is quiet -/
theorem walk {l : PySem.W.OpenLaw} {n k : Nat} {q : Program} {loose : List Str} {XP : (Str → Option Value) → Heap → Prop} {YP : World → Heap → Prop} {d : DefRec} {K : Params → PySem.W.Frag} {CX : World → CXT} {sp : World → Sp} {x : Str}
    (most : l.most = some n) (small : n ≤ sizeLine) (noDef : d.params.defaults = []) (room : Room k callerA)
    (inK : ∀ (w : World) (h : Heap), YP w h → (K w.params).In h)
    (F : ∀ (w : World) (mg : Str → Option Value) (fa : Addr) (h : Heap), (K w.params).In h → h.Ns mainGlobals mg → mg d.name = some (.ref fa) →
      ∃ fd : FuncData, (∀ (s : Shared) (u : Value), BindsTo s fd ⟨[u], []⟩ [(x, u)]) ∧
        ∀ b : Heap, (K w.params).In b → b.Ns mainGlobals mg → FnG l.prog w (K w.params) mg b (CX w) k fa fd [x] (sp w))
    (want : ∀ (w : World) (H : Hp) (a : Addr) (ns : List Int), ns.length ≤ n → Only H → SqL (K w.params) H a (ns.map V.int) → sp w [.ref a] H (fun v _ => v = .bl true) (fun _ _ _ => False))
    (noExc : ∀ (w : World) (H : Hp) (s : Shared) (e : Value) (t : Shared), CX w [] H s (fun _ _ _ => False) e t → False) :
    PySem.W.WalkO q loose XP YP l.row.toRowW d [] (fun f vs => PySem.call f vs) := by
  refine Att.attach_call most noDef ?_
  intro w s0 s1 mg mb fa o pm cd doc a vs ns G Y ho hd hcd hmg hobj hints hlen hg
  obtain ⟨fd, bd, ok⟩ := F w mg fa _ (inK w _ Y) G.T.g hmg
  exact _root_.G.law_call (inK w _ Y) G.T.g G.T.b G.T.builtins G.T.nolimit hg hobj hints (Nat.le_trans hlen small) room ok bd
    (fun H h1 h2 => want w H a ns hlen h1 h2) (fun H e t => noExc w H s1 e t)
end G
/-! Readings by cases of the values, and the steps through readings. -/
namespace Z
open PySem PySem.Spec PyProof.Rows L2 G
/-! ### operators by cases -/
def rAdd (K : PySem.W.Frag) : R2 := fun x y H Q => match x, y with
  | .int i, .int j => Q (.int (i + j)) H
  | .str a, .str b => a.length + b.length ≤ sizeLine ∧ Q (.str (a ++ b)) H
  | .ref a, .ref b => rCat (.ref a) (.ref b) H Q ∨ rCatA K (.ref a) (.ref b) H Q
  | _, _ => False
theorem op_add {X : Cx} : OpR X (binaryOp .Add) (rAdd X.K) := by
  intro pins s σ H x y v u Q I rx ry h
  cases x <;> cases y <;> first
    | exact False.elim h
    | exact L2.op_add pins s σ H _ _ v u Q I rx ry ⟨_, _, rfl, rfl, h⟩
    | exact L2.op_add_str pins s σ H _ _ v u Q I rx ry ⟨_, _, rfl, rfl, h⟩
    | (rcases h with h | h
       · exact op_cat pins s σ H _ _ v u Q I rx ry h
       · exact op_catA pins s σ H _ _ v u Q I rx ry h)
def rSub : R2 := fun x y H Q => match x, y with
  | .int i, .int j => Q (.int (i - j)) H
  | _, _ => False
theorem op_sub {X : Cx} : OpR X (binaryOp .Sub) rSub := by
  intro pins s σ H x y v u Q I rx ry h
  cases x <;> cases y <;> first
    | exact False.elim h
    | exact L2.op_sub pins s σ H _ _ v u Q I rx ry ⟨_, _, rfl, rfl, h⟩
/-- ints; a text some times; a list some times -/
def rMul : R2 := fun x y H Q => match x, y with
  | .int i, .int j => (CMul i j ∨ CMulW i j) ∧ Q (.int (i * j)) H
  | .str a, .int n => MulOk a n ∧ Q (.str (Txt.mul a n)) H
  | .ref a, .int n => rRep (.ref a) (.int n) H Q
  | _, _ => False
theorem op_mul {X : Cx} : OpR X (binaryOp .Mult) rMul := by
  intro pins s σ H x y v u Q I rx ry h
  cases x <;> cases y <;> first
    | exact False.elim h
    | exact op_rep pins s σ H (.ref _) (.int _) v u Q I rx ry h
    | (rcases h with ⟨h | h, q⟩
       · exact L2.op_mul pins s σ H _ _ v u Q I rx ry ⟨_, _, rfl, rfl, h, q⟩
       · exact op_mulW pins s σ H _ _ v u Q I rx ry ⟨_, _, rfl, rfl, h, q⟩)
    | (obtain ⟨ok, q⟩ := h
       obtain ⟨t, rfl⟩ := rx
       obtain ⟨t', rfl⟩ := ry
       exact PySem.SB.mul ok fun t' k => ⟨.str _, H, I.tok _, ⟨_, rfl⟩, q⟩)
/-- // by a number above 0 and below 2 ^ 30, % by one above 0 -/
def rDiv : R2 := fun x y H Q => match x, y with
  | .int i, .int j => (0 < j ∧ j < 1073741824) ∧ Q (.int (i / j)) H
  | _, _ => False
theorem op_div {X : Cx} : OpR X (binaryOp .FloorDiv) rDiv := by
  intro pins s σ H x y v u Q I rx ry h
  cases x <;> cases y <;> first
    | exact False.elim h
    | exact L2.op_fdiv pins s σ H _ _ v u Q I rx ry ⟨_, _, rfl, rfl, h.1, h.2⟩
def rMod : R2 := fun x y H Q => match x, y with
  | .int i, .int j => 0 < j ∧ Q (.int (i % j)) H
  | _, _ => False
theorem op_mod {X : Cx} : OpR X (binaryOp .Mod) rMod := by
  intro pins s σ H x y v u Q I rx ry h
  cases x <;> cases y <;> first
    | exact False.elim h
    | exact L2.op_mod pins s σ H _ _ v u Q I rx ry ⟨_, _, rfl, rfl, h.1, h.2⟩
def rPow : R2 := fun x y H Q => match x, y with
  | .int i, .int j => (0 ≤ j ∧ (Builtin.Int.intBits i : Int) * j ≤ 2 ^ 27) ∧ Q (.int (i ^ j.toNat)) H
  | _, _ => False
theorem op_pow {X : Cx} : OpR X (binaryOp .Pow) rPow := by
  intro pins s σ H x y v u Q I rx ry h
  cases x <;> cases y <;> first
    | exact False.elim h
    | (obtain ⟨⟨h1, h2⟩, q⟩ := h
       obtain ⟨t, rfl⟩ := rx
       obtain ⟨t', rfl⟩ := ry
       exact pow_int h1 h2 ⟨.int _, H, I.tok _, ⟨_, rfl⟩, q⟩)
/-! ### comparisons by cases -/
def rEq (K : PySem.W.Frag) : R2 := fun x y H Q => (scal x y = true ∧ Q (.bl (decide (x = y))) H) ∨ rEqD K x y H Q
def rNe (K : PySem.W.Frag) : R2 := fun x y H Q => (scal x y = true ∧ Q (.bl (!decide (x = y))) H) ∨ rNeD K x y H Q
theorem op_eq {X : Cx} (hu : X.A.units + 64 < cLine) : OpR X (compareOp .Eq) (rEq X.K) := by
  intro pins s σ H x y v u Q I rx ry h
  rcases h with h | h
  · exact L2.op_eq pins s σ H x y v u Q I rx ry h
  · exact op_eqD hu pins s σ H x y v u Q I rx ry h
theorem op_ne {X : Cx} (hu : X.A.units + 64 < cLine) : OpR X (compareOp .NotEq) (rNe X.K) := by
  intro pins s σ H x y v u Q I rx ry h
  rcases h with h | h
  · exact L2.op_ne pins s σ H x y v u Q I rx ry h
  · exact op_neD hu pins s σ H x y v u Q I rx ry h
def rLt : R2 := fun x y H Q => match x, y with
  | .int i, .int j => Q (.bl (decide (i < j))) H
  | .str a, .str b => Q (.bl (decide (a.cps.toList < b.cps.toList))) H
  | _, _ => False
def rLe : R2 := fun x y H Q => match x, y with
  | .int i, .int j => Q (.bl (decide (i ≤ j))) H
  | .str a, .str b => Q (.bl (!decide (b.cps.toList < a.cps.toList))) H
  | _, _ => False
def rGt : R2 := fun x y H Q => match x, y with
  | .int i, .int j => Q (.bl (decide (j < i))) H
  | .str a, .str b => Q (.bl (decide (b.cps.toList < a.cps.toList))) H
  | _, _ => False
def rGe : R2 := fun x y H Q => match x, y with
  | .int i, .int j => Q (.bl (decide (j ≤ i))) H
  | .str a, .str b => Q (.bl (!decide (a.cps.toList < b.cps.toList))) H
  | _, _ => False
theorem op_lt {X : Cx} : OpR X (compareOp .Lt) rLt := by
  intro pins s σ H x y v u Q I rx ry h
  cases x <;> cases y <;> first
    | exact False.elim h
    | exact L2.op_lt pins s σ H _ _ v u Q I rx ry ⟨_, _, rfl, rfl, h⟩
    | exact L2.op_lt_str pins s σ H _ _ v u Q I rx ry ⟨_, _, rfl, rfl, h⟩
theorem op_le {X : Cx} : OpR X (compareOp .LtE) rLe := by
  intro pins s σ H x y v u Q I rx ry h
  cases x <;> cases y <;> first
    | exact False.elim h
    | exact L2.op_le pins s σ H _ _ v u Q I rx ry ⟨_, _, rfl, rfl, h⟩
    | exact L2.op_le_str pins s σ H _ _ v u Q I rx ry ⟨_, _, rfl, rfl, h⟩
theorem op_gt {X : Cx} : OpR X (compareOp .Gt) rGt := by
  intro pins s σ H x y v u Q I rx ry h
  cases x <;> cases y <;> first
    | exact False.elim h
    | exact L2.op_gt pins s σ H _ _ v u Q I rx ry ⟨_, _, rfl, rfl, h⟩
    | exact L2.op_gt_str pins s σ H _ _ v u Q I rx ry ⟨_, _, rfl, rfl, h⟩
theorem op_ge {X : Cx} : OpR X (compareOp .GtE) rGe := by
  intro pins s σ H x y v u Q I rx ry h
  cases x <;> cases y <;> first
    | exact False.elim h
    | exact L2.op_ge pins s σ H _ _ v u Q I rx ry ⟨_, _, rfl, rfl, h⟩
    | exact L2.op_ge_str pins s σ H _ _ v u Q I rx ry ⟨_, _, rfl, rfl, h⟩
def rIsN : R2 := fun x y H Q => match y with
  | .non => Q (.bl (decide (x = .non))) H
  | _ => False
def rNotN : R2 := fun x y H Q => match y with
  | .non => Q (.bl (!decide (x = .non))) H
  | _ => False
theorem op_isN {X : Cx} : OpR X (compareOp .Is) rIsN := by
  intro pins s σ H x y v u Q I rx ry h
  cases y <;> first
    | exact False.elim h
    | exact L2.op_isN pins s σ H _ _ v u Q I rx ry ⟨rfl, h⟩
theorem op_notN {X : Cx} : OpR X (compareOp .IsNot) rNotN := by
  intro pins s σ H x y v u Q I rx ry h
  cases y <;> first
    | exact False.elim h
    | exact L2.op_notN pins s σ H _ _ v u Q I rx ry ⟨rfl, h⟩
/-- in, not in a list or a tuple of flat things -/
theorem op_in {X : Cx} : OpR X (compareOp .In) (rIn X.K false) := op_in_seq
theorem op_notIn {X : Cx} : OpR X (compareOp .NotIn) (rIn X.K true) := op_notIn_seq
/-! ### len, items, slices -/
def rLen (K : PySem.W.Frag) : List V → Hp → VK → Prop := fun vs H Q => match vs with
  | [.str z] => z.length ≤ sizeLine ∧ Q (.int (z.length : Nat)) H
  | [.ref p] => (∃ xs, (SqL K H p xs ∨ SqT K H p xs) ∧ Q (.int (xs.length : Nat)) H) ∨ ∃ kvs, H p = some (.dK kvs) ∧ Q (.int (kvs.length : Nat)) H
  | _ => False
theorem call_len {X : Cx} : CallR X (.builtin "len") (rLen X.K) := by
  intro pins s σ H xs us Q I r h
  match xs, h with
  | [.str z], h => exact call_len_str pins s σ H _ us Q I r ⟨_, rfl, h.1, h.2⟩
  | [.ref p], h =>
    rcases h with ⟨ys, h1, h2⟩ | ⟨kvs, h1, h2⟩
    · exact call_len_seq pins s σ H _ us Q I r ⟨_, _, rfl, h1, h2⟩
    · exact call_lenD pins s σ H _ us Q I r ⟨_, _, rfl, h1, h2⟩
def rItem (K : PySem.W.Frag) : R2 := fun x y H Q => match x, y with
  | .str z, .int i => z.length ≤ sizeLine ∧ ∃ c, atI z.cps.toList i = some c ∧ Q (.str ⟨#[c]⟩) H
  | .ref p, .int i => ∃ xs v, (SqL K H p xs ∨ SqT K H p xs) ∧ atI xs i = some v ∧ Q v H
  | _, _ => False
theorem ix_item {X : Cx} : IxR X (rItem X.K) := by
  intro value slice pins s σ H x y v u Q I rx ry h hs
  cases x <;> cases y <;> first
    | exact False.elim h
    | (obtain ⟨h1, c, h2, h3⟩ := h
       exact ix_str value slice pins s σ H _ _ v u Q I rx ry ⟨_, _, _, rfl, rfl, h1, h2, h3⟩ hs)
    | (obtain ⟨xs, w, h1 | h1, h2, h3⟩ := h
       · exact ix_list value slice pins s σ H _ _ v u Q I rx ry ⟨_, _, _, _, rfl, rfl, h1, h2, h3⟩ hs
       · exact ix_tup value slice pins s σ H _ _ v u Q I rx ry ⟨_, _, _, _, rfl, rfl, h1, h2, h3⟩ hs)
def rCut (K : PySem.W.Frag) : V → Option Int → Option Int → Hp → VK → Prop := fun x lo hi H Q => match x with
  | .str z => z.length ≤ sizeLine ∧ Q (.str (cutS z lo hi)) H
  | .ref p => rSlL K (.ref p) lo hi H Q ∨ rSlA K (.ref p) lo hi H Q
  | _ => False
theorem sl_cut {X : Cx} : SlR X (rCut X.K) := by
  intro pins s σ H x v vl vu lo hi sl Q I rx hs pl pu h
  cases x <;> first
    | exact False.elim h
    | exact sl_str pins s σ H _ v vl vu lo hi sl Q I rx hs pl pu ⟨_, rfl, h.1, h.2⟩
    | (rcases h with h | h
       · exact sl_list pins s σ H _ v vl vu lo hi sl Q I rx hs pl pu h
       · exact sl_tupA pins s σ H _ v vl vu lo hi sl Q I rx hs pl pu h)
theorem revIx (n : Nat) : Builtin.Str.strSliceIndices none none (-1) n = (List.range n).map fun k => n - 1 - k := by
  unfold Builtin.Str.strSliceIndices
  have h1 : ¬ ((-1 : Int) > 0) := by decide
  simp only [h1, if_false]
  exact PySem.W.krv_sliceRange n
theorem rev_len (z : Str) : ((Builtin.Str.strSliceIndices none none (-1) z.length).filterMap (z.cps[·]?)).length ≤ z.length := by
  refine Nat.le_trans (List.length_filterMap_le _ _) ?_
  rw [revIx, List.length_map, List.length_range]
  exact Nat.le_refl _
theorem rev_mem (z : Str) (l : List Nat) (c : Nat) (h : c ∈ l.filterMap (z.cps[·]?)) : c ∈ z.cps.toList := by
  obtain ⟨k, _, e⟩ := List.mem_filterMap.mp h
  rw [← Array.getElem?_toList] at e
  exact List.mem_of_getElem? e
/-- z[::-1]: the signs of z, as many -/
def tRevS (te : TE) : TE := fun σ H Q => te σ H fun x H1 => ∃ z : Str, x = .str z ∧ z.length ≤ sizeLine ∧ ∀ y : Str, y.length ≤ z.length → (∀ c ∈ y.cps.toList, c ∈ z.cps.toList) → Q (.str y) H1
theorem pe_revS {X : Cx} {e : Expr} {te : TE} {k : Nat} {p1 p2 p3 pos : Pos} (he : PE X e te) : PE X (.Subscript e (.Slice none none (some (.UnaryOp .USub (.Constant (.int 1) k p1) p2)) p3) pos) (tRevS te) := by
  refine ⟨?_⟩
  intro pins s σ H Q I want
  refine Subscript_ (thn (he.run pins s σ H _ I want) ?_)
  rintro v s1 ⟨x, H1, I1, rx, z, ex, hz, q⟩
  subst ex
  obtain ⟨t, rfl⟩ := rx
  have part : PO X (some (.UnaryOp .USub (.Constant (.int 1) k p1) p2)) (tPart (tUn (rU fun i => .int (-i)) (tC (.int 1)))) :=
    po_some (pe_un un_neg pe_int)
  refine wpAny_Slice (thn (po_none.run pins s1 σ H1 (fun o H2 => o = none ∧ H2 = H1) I1 ⟨rfl, rfl⟩) ?_)
  rintro vl s2 ⟨l, H2, I2, pl, el, e2⟩
  subst el e2
  refine thn (po_none.run pins s2 σ H2 (fun o H3 => o = none ∧ H3 = H2) I2 ⟨rfl, rfl⟩) ?_
  rintro vu s3 ⟨u, H3, I3, pu, eu, e3⟩
  subst eu e3
  refine thn (part.run pins s3 σ H3 (fun o H4 => o = some (-1) ∧ H4 = H3) I3 ⟨1, rfl, -1, rfl, rfl, rfl⟩) ?_
  rintro vs s4 ⟨o, H4, I4, ps, eo, e4⟩
  subst eo e4
  have I5 : Inv X pins σ H4 { s4 with heap := s4.heap.push { cls := .type "slice", data := .fields #[vl, vu, vs] } } :=
    I4.kept (t' := s4.toks) fun b ob q => Heap.get?_push_of_some _ q
  obtain ⟨l, rfl, hl⟩ := IsPart.raw pl
  obtain ⟨u, rfl, hu⟩ := IsPart.raw pu
  obtain ⟨st, rfl, hst⟩ := IsPart.raw ps
  have sl := Heap.IsSliceOf.new s4.heap (partValue l) (partValue u) (partValue st)
  refine tail_any (ops := [.str z t, .ref s4.heap.objs.size]) (typeIs_str _ _ _) (PySem.F.slot_str_getitem.lookup) ?_ (by with_unfolding_all rfl)
  refine wpAny_getItem_str_slice (l := l) (u := u) (st := st) ?_ ?_ ?_
  · obtain ⟨o, h1, h2, h3⟩ := sl
    exact ⟨o, h1, h2, h3⟩
  · rw [hst]
    rfl
  · have pk : slicePicked z l u st = Builtin.Str.strSliceIndices none none (-1) z.length := by
      unfold slicePicked
      rw [hl, hu, hst]
      rfl
    unfold sliceMade
    rw [pk]
    by_cases c : ((st.map (·.1)).getD 1 == 1 && (Builtin.Str.strSliceIndices none none (-1) z.length).length == z.length) = true
    · rw [if_pos c]
      exact ⟨.str z, H4, I5, ⟨t, rfl⟩, q z (Nat.le_refl _) fun _ m => m⟩
    · rw [if_neg c]
      refine ⟨Nat.le_trans (rev_len z) hz, .str _, H4, I5.tok _, ⟨_, rfl⟩, q _ (rev_len z) fun c m => rev_mem z _ c m⟩
/-! ### calls of builtins by cases -/
def rInt : List V → Hp → VK → Prop := fun vs H Q => match vs with
  | [.int i] => Q (.int i) H
  | [.bl k] => Q (.int (if k then 1 else 0)) H
  | _ => False
theorem call_int {X : Cx} : CallR X (.type "int") rInt := by
  intro pins s σ H xs us Q I r h
  match xs, h with
  | [.int i], h => exact call_int1 pins s σ H _ us Q I r (.inl ⟨_, rfl, h⟩)
  | [.bl k], h => exact call_int1 pins s σ H _ us Q I r (.inr ⟨_, rfl, h⟩)
def rAbs : List V → Hp → VK → Prop := fun vs H Q => match vs with
  | [.int i] => Q (.int (if i < 0 then -i else i)) H
  | _ => False
theorem call_abs {X : Cx} : CallR X (.builtin "abs") rAbs := by
  intro pins s σ H xs us Q I r h
  match xs, h with
  | [.int i], h => exact L2.call_abs pins s σ H _ us Q I r ⟨_, rfl, h⟩
def rMax : List V → Hp → VK → Prop := fun vs H Q => match vs with
  | [.int i, .int j] => Q (.int (if j > i then j else i)) H
  | _ => False
theorem call_max {X : Cx} (hc : X.calm = true) : CallR X (.builtin "max") rMax := by
  intro pins s σ H xs us Q I r h
  match xs, h with
  | [.int i, .int j], h => exact call_max2 hc pins s σ H _ us Q I r ⟨_, _, rfl, h⟩
def rMin : List V → Hp → VK → Prop := fun vs H Q => match vs with
  | [.int i, .int j] => Q (.int (if j < i then j else i)) H
  | _ => False
theorem call_min {X : Cx} (hc : X.calm = true) : CallR X (.builtin "min") rMin := by
  intro pins s σ H xs us Q I r h
  match xs, h with
  | [.int i, .int j], h => exact call_min2 hc pins s σ H _ us Q I r ⟨_, _, rfl, h⟩
/-- list(xs) of a list or a tuple -/
def rList (K : PySem.W.Frag) : List V → Hp → VK → Prop := fun vs H Q => match vs with
  | [.ref p] => ∃ ys, (SqL K H p ys ∨ SqT K H p ys) ∧ ∀ l, H l = none → Q (.ref l) (upd H l (.lst ys))
  | _ => False
theorem call_list {X : Cx} : CallR X (.type "list") (rList X.K) := by
  intro pins s σ H xs us Q I r h
  match xs, h with
  | [.ref p], ⟨ys, h1, h2⟩ => exact call_list_of pins s σ H _ us Q I r ⟨_, _, rfl, h1, h2⟩
/-- tuple(xs) of a list or a tuple -/
def rTuple (K : PySem.W.Frag) : List V → Hp → VK → Prop := fun vs H Q => match vs with
  | [.ref p] => ∃ ys, (SqL K H p ys ∧ ∀ l, H l = none → Q (.ref l) (upd H l (.tup ys))) ∨ (SqT K H p ys ∧ Q (.ref p) H)
  | _ => False
theorem call_tuple {X : Cx} : CallR X (.type "tuple") (rTuple X.K) := by
  intro pins s σ H xs us Q I r h
  match xs, h with
  | [.ref p], ⟨ys, h1⟩ => exact call_tuple_of pins s σ H _ us Q I r ⟨_, _, rfl, h1⟩
/-- all(xs) of a list of truths -/
def rAll (K : PySem.W.Frag) : List V → Hp → VK → Prop := fun vs H Q => match vs with
  | [.ref p] => ∃ bs : List Bool, SqL K H p (bs.map V.bl) ∧ Q (.bl (bs.all id)) H
  | _ => False
theorem call_all {X : Cx} (hc : X.calm = true) : CallR X (.builtin "all") (rAll X.K) := by
  intro pins s σ H xs us Q I r h
  match xs, h with
  | [.ref p], ⟨bs, h1, h2⟩ => exact cr_all hc pins s σ H _ us Q I r ⟨_, _, rfl, h1, h2⟩
/-- isinstance(x, T), T a built-in class -/
def rIs (K : PySem.W.Frag) : List V → Hp → VK → Prop := fun vs H Q => match vs with
  | [x, .ty n] => ∃ t b, TyX K H x t ∧ PySem.W.kitOne K t (.type n) = some b ∧ Q (.bl b) H
  | [x, .ref C] => ∃ t b, TyX K H x t ∧ PySem.W.kitOne K t (.ref C) = some b ∧ Q (.bl b) H
  | _ => False
theorem call_is {X : Cx} : CallR X (.builtin "isinstance") (rIs X.K) := by
  intro pins s σ H xs us Q I r h
  match xs, h with
  | [x, .ty n], ⟨t, b, h1, h2, h3⟩ => exact call_isi pins s σ H _ us Q I r ⟨x, _, t, _, b, rfl, .ty n, h1, h2, h3⟩
  | [x, .ref C], ⟨t, b, h1, h2, h3⟩ => exact call_isi pins s σ H _ us Q I r ⟨x, _, t, _, b, rfl, .own C, h1, h2, h3⟩
/-- list(z), z a text: its signs -/
def signsV (z : Str) : List V := z.cps.toList.map fun c => V.str ⟨#[c]⟩
def rListS : List V → Hp → VK → Prop := fun vs H Q => match vs with
  | [.str z] => z.length ≤ sizeLine ∧ ∀ l, H l = none → Q (.ref l) (upd H l (.lst (signsV z)))
  | _ => False
theorem vals_signs : ∀ (l : List Nat) (us : List Value), us.length = l.length → (∀ (i : Nat) (c : Nat) (u : Value), l[i]? = some c → us[i]? = some u → ∃ t, u = Value.str ⟨#[c]⟩ t) → Vals (l.map fun c => V.str ⟨#[c]⟩) us
  | [], [], _, _ => .nil
  | c :: l, u :: us, hl, h => by
    obtain ⟨t, e⟩ := h 0 c u rfl rfl
    refine .cons ⟨t, e⟩ (vals_signs l us (by simpa using hl) fun i d v h1 h2 => ?_)
    exact h (i + 1) d v (by simpa using h1) (by simpa using h2)
theorem call_listS {X : Cx} (hc : X.calm = true) : CallR X (.type "list") rListS := by
  intro pins s σ H xs us Q I r h
  match xs, h with
  | [.str z], ⟨hz, q⟩ =>
    obtain ⟨u, rfl, hu⟩ : ∃ u, us = [u] ∧ RelV (.str z) u := by
      cases r with
      | cons a b =>
        cases b
        exact ⟨_, rfl, a⟩
    obtain ⟨t, rfl⟩ := hu
    refine PySem.call_list_str (I.ok.hd hc) z t (hn := hz) ?_
    intro h1 tk acc c1 keep at1 its
    have fresh : H s.heap.objs.size = none := I.hok.fresh (Nat.le_refl _)
    have rel : Vals (signsV z) acc.toList := by
      refine vals_signs _ _ ?_ ?_
      · rw [Array.length_toList, its.1, Array.length_toList]
      · intro i c u e1 e2
        obtain ⟨c2, t2, e3, e4⟩ := its.2 i u (by simpa using e2)
        rw [Array.getElem?_toList, e3] at e1
        refine ⟨t2, ?_⟩
        rw [e4, Option.some.inj e1]
    refine ⟨.ref _, _, I.laid (t' := tk) (o := .lst (signsV z)) keep (Nat.le_refl _) ⟨?_, acc.toList, c1, rel, ?_⟩, rfl, q _ fresh⟩
    · unfold signsV
      rw [List.length_map, Array.length_toList]
      exact hz
    · rw [at1]
def rListZ (K : PySem.W.Frag) : List V → Hp → VK → Prop := fun vs H Q => match vs with
  | [.str z] => rListS [.str z] H Q
  | [.ref p] => rList K [.ref p] H Q
  | _ => False
theorem call_listZ {X : Cx} (hc : X.calm = true) : CallR X (.type "list") (rListZ X.K) := by
  intro pins s σ H xs us Q I r h
  match xs, h with
  | [.str z], h => exact call_listS hc pins s σ H _ us Q I r h
  | [.ref p], h => exact call_list pins s σ H _ us Q I r h
end Z
/-! Steps through readings: each takes the goal's head off. -/
namespace Z
open PySem PySem.Spec PyProof.Rows L2 G
section
variable {K : PySem.W.Frag} {σ : L2.St} {H : Hp} {Q : VK} {D : Ends} {te ta tb tc : TE} {v x y : V} {i : Nat} {r r' : R2} {t : TA} {tt t1 t2 : TT} {ts tu : TS} {g : TG} {sp : Sp} {E : XK}
theorem s_var (h : σ[i]? = some (some v)) (q : Q v H) : tVar i σ H Q := ⟨v, h, q⟩
theorem s_c (q : Q v H) : tC v σ H Q := q
theorem s_op (q : ta σ H fun x H1 => tb σ H1 fun y H2 => r x y H2 Q) : tOp r ta tb σ H Q := q
theorem s_un {r : V → Hp → VK → Prop} (q : ta σ H fun x H1 => r x H1 Q) : tUn r ta σ H Q := q
theorem s_nil {Q : List V → Hp → Prop} (q : Q [] H) : tNil σ H Q := q
theorem s_cons {Q : List V → Hp → Prop} (q : ta σ H fun x H1 => t σ H1 fun xs H2 => Q (x :: xs) H2) : tCons ta t σ H Q := q
theorem s_cb {r : List V → Hp → VK → Prop} (q : t σ H fun vs H1 => r vs H1 Q) : tCB r t σ H Q := q
theorem s_call (q : t σ H fun vs H1 => sp vs H1 Q E) : tCall sp [] E t σ H Q := by
  unfold tCall
  simp only [List.append_nil]
  exact q
theorem s_tup (q : t σ H fun xs H1 => xs.length ≤ sizeLine ∧ ∀ p, H1 p = none → Q (.ref p) (upd H1 p (.tup xs))) : tTup t σ H Q := q
theorem s_lst (q : t σ H fun xs H1 => xs.length ≤ sizeLine ∧ ∀ p, H1 p = none → Q (.ref p) (upd H1 p (.lst xs))) : tLst t σ H Q := q
theorem s_test {Q : Bool → Hp → Prop} (q : te σ H fun x H1 => ∃ k, x = .bl k ∧ Q k H1) : tTest te σ H Q := q
theorem s_B {Q : Bool → Hp → Prop} (q : te σ H fun x H1 => ∃ k, x = .bl k ∧ Q k H1) : tB te σ H Q := q
theorem s_bl {b : Bool} {P : Bool → Prop} (q : P b) : ∃ k, V.bl b = .bl k ∧ P k := ⟨b, rfl, q⟩
theorem s_and {Q : Bool → Hp → Prop} (q : t1 σ H fun c H1 => if c = true then t2 σ H1 Q else Q false H1) : tAnd t1 t2 σ H Q := q
theorem s_or {Q : Bool → Hp → Prop} (q : t1 σ H fun c H1 => if c = true then Q true H1 else t2 σ H1 Q) : tOr t1 t2 σ H Q := q
theorem s_not {Q : Bool → Hp → Prop} (q : t1 σ H fun c H1 => Q (!c) H1) : tNot t1 σ H Q := q
theorem s_andV (q : ta σ H fun x H1 => ∃ c, x = .bl c ∧ if c = true then tb σ H1 Q else Q (.bl false) H1) : tAndV ta tb σ H Q := q
theorem s_orV (q : ta σ H fun x H1 => ∃ c, x = .bl c ∧ if c = true then Q (.bl true) H1 else tb σ H1 Q) : tOrV ta tb σ H Q := q
theorem s_notV (q : ta σ H fun x H1 => ∃ c, x = .bl c ∧ Q (.bl (!c)) H1) : tNotV ta σ H Q := q
theorem s_if (q : t1 σ H fun c H1 => if c = true then ta σ H1 Q else tb σ H1 Q) : tIf t1 ta tb σ H Q := q
theorem s_chain (q : ta σ H fun x H1 => tb σ H1 fun y H2 => r x y H2 fun z H3 => ∃ k, z = .bl k ∧ (if k = true then tc σ H3 fun w H4 => r' y w H4 Q else Q (.bl false) H3)) : tChain r r' ta tb tc σ H Q := q
theorem s_seq (q : ts { D with nx := tu D } σ H) : tSeq ts tu D σ H := q
theorem s_next (q : D.nx σ H) : tNext D σ H := q
theorem s_drop (q : te σ H fun _ H1 => D.nx σ H1) : tDrop te D σ H := q
theorem s_ret (q : te σ H D.rt) : tRet te D σ H := q
theorem s_ifS (q : t1 σ H fun b H1 => if b = true then ts D σ H1 else tu D σ H1) : tIfS t1 ts tu D σ H := q
theorem s_asg (q : te σ H fun x H1 => g x σ H1 D.nx) : tAsg te g D σ H := q
theorem s_name {Q : L2.St → Hp → Prop} (q : Q (σ.set i (some x)) H) : gName i x σ H Q := q
theorem s_par {j : Nat} (q : t σ H fun vs H1 => ∃ v w, vs = [v, w] ∧ D.nx ((σ.set i (some v)).set j (some w)) H1) : tPar i j t D σ H := q
theorem s_two {a b : V} {P : V → V → Prop} (q : P a b) : ∃ v w, [a, b] = [v, w] ∧ P v w := ⟨a, b, rfl, q⟩
theorem s_item (q : te σ H fun o H1 => ta σ H1 fun i H2 => rSetL o i v H2 fun H3 => D.nx σ H3) : gSub te ta rSetL v σ H D.nx := q
theorem s_part {Q : Option Int → Hp → Prop} (q : te σ H fun x H1 => ∃ i, x = .int i ∧ Q (some i) H1) : tPart te σ H Q := q
theorem s_noPart {Q : Option Int → Hp → Prop} (q : Q none H) : tNoPart σ H Q := q
theorem s_int {j : Int} {P : Int → Prop} (q : P j) : ∃ i, V.int j = .int i ∧ P i := ⟨j, rfl, q⟩
theorem s_cut {tl th : TO} {r : V → Option Int → Option Int → Hp → VK → Prop} (q : te σ H fun x H1 => tl σ H1 fun l H2 => th σ H2 fun u H3 => r x l u H3 Q) : tSl r te tl th σ H Q := q
theorem s_bm0 {T : String} {r : V → List V → Hp → VK → Prop} (q : te σ H fun x H1 => tyV K T x H1 ∧ r x [] H1 Q) : tBM0 K T r te σ H Q := q
theorem s_bm {T : String} {r : V → List V → Hp → VK → Prop} (q : te σ H fun x H1 => tyV K T x H1 ∧ t σ H1 fun xs H2 => r x xs H2 Q) : tBM K T r te t σ H Q := q
/-! the operators at their values -/
theorem a_addI {i j : Int} (q : Q (.int (i + j)) H) : Z.rAdd K (.int i) (.int j) H Q := q
theorem a_subI {i j : Int} (q : Q (.int (i - j)) H) : Z.rSub (.int i) (.int j) H Q := q
theorem a_ltI {i j : Int} (q : Q (.bl (decide (i < j))) H) : Z.rLt (.int i) (.int j) H Q := q
theorem a_leI {i j : Int} (q : Q (.bl (decide (i ≤ j))) H) : Z.rLe (.int i) (.int j) H Q := q
theorem a_gtI {i j : Int} (q : Q (.bl (decide (j < i))) H) : Z.rGt (.int i) (.int j) H Q := q
theorem a_geI {i j : Int} (q : Q (.bl (decide (j ≤ i))) H) : Z.rGe (.int i) (.int j) H Q := q
theorem a_eqI {i j : Int} (q : Q (.bl (decide (i = j))) H) : Z.rEq K (.int i) (.int j) H Q := .inl ⟨rfl, by simpa using q⟩
theorem a_neI {i j : Int} (q : Q (.bl (!decide (i = j))) H) : Z.rNe K (.int i) (.int j) H Q := .inl ⟨rfl, by simpa using q⟩
theorem a_eqS {i j : Str} (q : Q (.bl (decide (i = j))) H) : Z.rEq K (.str i) (.str j) H Q := .inl ⟨rfl, by simpa using q⟩
theorem a_neS {i j : Str} (q : Q (.bl (!decide (i = j))) H) : Z.rNe K (.str i) (.str j) H Q := .inl ⟨rfl, by simpa using q⟩
theorem a_eqB {i j : Bool} (q : Q (.bl (decide (i = j))) H) : Z.rEq K (.bl i) (.bl j) H Q := .inl ⟨rfl, by simpa using q⟩
theorem a_neB {i j : Bool} (q : Q (.bl (!decide (i = j))) H) : Z.rNe K (.bl i) (.bl j) H Q := .inl ⟨rfl, by simpa using q⟩
theorem a_isN (q : Q (.bl (decide (x = .non))) H) : Z.rIsN x .non H Q := q
theorem a_notN (q : Q (.bl (!decide (x = .non))) H) : Z.rNotN x .non H Q := q
theorem a_int {i : Int} (q : Q (.int i) H) : Z.rInt [.int i] H Q := q
theorem a_intB {k : Bool} (q : Q (.int (if k then 1 else 0)) H) : Z.rInt [.bl k] H Q := q
theorem a_abs {i : Int} (q : Q (.int (if i < 0 then -i else i)) H) : Z.rAbs [.int i] H Q := q
theorem a_max {i j : Int} (q : Q (.int (if j > i then j else i)) H) : Z.rMax [.int i, .int j] H Q := q
theorem a_min {i j : Int} (q : Q (.int (if j < i then j else i)) H) : Z.rMin [.int i, .int j] H Q := q
theorem a_mod {i j : Int} (q : 0 < j ∧ Q (.int (i % j)) H) : Z.rMod (.int i) (.int j) H Q := q
theorem a_div {i j : Int} (q : (0 < j ∧ j < 1073741824) ∧ Q (.int (i / j)) H) : Z.rDiv (.int i) (.int j) H Q := q
theorem a_mulI {i j : Int} (q : (CMul i j ∨ CMulW i j) ∧ Q (.int (i * j)) H) : Z.rMul (.int i) (.int j) H Q := q
theorem a_pow {i j : Int} (q : (0 ≤ j ∧ (Builtin.Int.intBits i : Int) * j ≤ 2 ^ 27) ∧ Q (.int (i ^ j.toNat)) H) : Z.rPow (.int i) (.int j) H Q := q
theorem a_setL {p : Addr} {k : Int} {Q : Hp → Prop} (q : ∃ xs j, H p = some (.lst xs) ∧ ixN xs.length k = some j ∧ Q (upd H p (.lst (xs.set j v)))) : rSetL (.ref p) (.int k) v H Q :=
  let ⟨xs, j, h1, h2, h3⟩ := q
  ⟨p, xs, k, j, rfl, rfl, h1, h2, h3⟩
end
end Z
/-! The rules with the module's part named. -/
namespace Z
open PySem PySem.Spec PyProof.Rows L2 G
section
variable {X : Cx} {K : PySem.W.Frag}
theorem k_add (h : X.K = K := by rfl) : OpR X (binaryOp .Add) (Z.rAdd K) := by
  subst h
  exact Z.op_add
theorem k_eq (hu : X.A.units + 64 < cLine) (h : X.K = K := by rfl) : OpR X (compareOp .Eq) (Z.rEq K) := by
  subst h
  exact Z.op_eq hu
theorem k_ne (hu : X.A.units + 64 < cLine) (h : X.K = K := by rfl) : OpR X (compareOp .NotEq) (Z.rNe K) := by
  subst h
  exact Z.op_ne hu
theorem k_in (h : X.K = K := by rfl) : OpR X (compareOp .In) (rIn K false) := by
  subst h
  exact op_in_seq
theorem k_notIn (h : X.K = K := by rfl) : OpR X (compareOp .NotIn) (rIn K true) := by
  subst h
  exact op_notIn_seq
theorem k_len (h : X.K = K := by rfl) : CallR X (.builtin "len") (Z.rLen K) := by
  subst h
  exact Z.call_len
theorem k_item (h : X.K = K := by rfl) : IxR X (Z.rItem K) := by
  subst h
  exact Z.ix_item
theorem k_cut (h : X.K = K := by rfl) : SlR X (Z.rCut K) := by
  subst h
  exact Z.sl_cut
theorem k_list (hc : X.calm = true) (h : X.K = K := by rfl) : CallR X (.type "list") (Z.rListZ K) := by
  subst h
  exact Z.call_listZ hc
theorem k_tuple (h : X.K = K := by rfl) : CallR X (.type "tuple") (Z.rTuple K) := by
  subst h
  exact Z.call_tuple
theorem k_all (hc : X.calm = true) (h : X.K = K := by rfl) : CallR X (.builtin "all") (Z.rAll K) := by
  subst h
  exact Z.call_all hc
theorem k_is (h : X.K = K := by rfl) : CallR X (.builtin "isinstance") (Z.rIs K) := by
  subst h
  exact Z.call_is
theorem k_bm0 {o : Expr} {name : Str} {apos cpos : Pos} {T id : String} {r : V → List V → Hp → VK → Prop} {to : TE} (pa : PlainAttrs T) (slot : Slot T name id) (ty : typeOf (.builtin id) = pure (.type "method_descriptor")) (hm : MtR X id r) (ho : PE X o to)
    (h : X.K = K := by rfl) (hb : attributeBase o name X.env (eval o X.env) = eval o X.env := by rfl) (hl : (apos.endLine == cpos.line) = true := by rfl) : PE X (.Call (.Attribute o name apos) [] [] cpos) (tBM0 K T r to) := by
  subst h
  exact pe_bm0 pa slot ty hm ho hb hl
theorem k_bm {o e : Expr} {es : List Expr} {name : Str} {apos cpos : Pos} {T id : String} {r : V → List V → Hp → VK → Prop} {to : TE} {t : TA} (pa : PlainAttrs T) (slot : Slot T name id) (ty : typeOf (.builtin id) = pure (.type "method_descriptor")) (hm : MtR X id r) (ho : PE X o to) (ha : PA X (e :: es) t)
    (h : X.K = K := by rfl) (hb : attributeBase o name X.env (eval o X.env) = eval o X.env := by rfl)
    (few : ((backTo cpos (starEach (e :: es) X.env)).all (fun x => !x.1) && (backToKw cpos (keywordEach [] X.env)).all (fun x => x.1.isSome) && decide ((e :: es).length + ([] : List Keyword).length + (if ([] : List Keyword).isEmpty then 0 else 1) < 30)) = true := by rfl)
    (hl : (apos.endLine == cpos.line) = true := by rfl) (hs : starEach (e :: es) X.env = (false, eval e X.env) :: starEach es X.env := by rfl) (hp : (backTo cpos (starEach es X.env)).any (·.1) = false := by rfl) :
    PE X (.Call (.Attribute o name apos) (e :: es) [] cpos) (tBM K T r to t) := by
  subst h
  exact pe_bm pa slot ty hm ho ha hb few hl hs hp
theorem k_tup {es : List Expr} {k : Nat} {t : TGs} {n : Nat} {pos : Pos} (hc : X.calm = true) (g : PGs X es t) (h : X.K = K := by rfl)
    (hn : (assignEach es X.env).length = n := by rfl) (hst : (assignEach es X.env).findIdx? (·.1) = none := by rfl) : PG X (.Tuple es k pos) (gTup K n t) := by
  subst h
  exact pg_tup hc g hn hst
/-- sorted of fewer than 64 texts -/
def rSorted (K : PySem.W.Frag) : List V → Hp → VK → Prop := fun vs H Q => match vs with
  | [.ref a] => ∃ xs : List Str, SqL K H a (xs.map V.str) ∧ xs.length < 64 ∧ ∀ (ys : List Str) (p : Addr), ys.Perm xs → sortedS ys = true → H p = none → Q (.ref p) (upd H p (.lst (ys.map V.str)))
  | _ => False
theorem k_sortedS (h : X.K = K := by rfl) : CallR X (.builtin "sorted") (rSorted K) := by
  subst h
  intro pins s σ H xs us Q I r q
  match xs, q with
  | [.ref a], ⟨ys, h1, h2, h3⟩ => exact cr_sortedS pins s σ H _ us Q I r ⟨a, ys, rfl, h1, h2, h3⟩
end
end Z
/-! What a call of a law's draw leaves: the pot may change, all else stays. -/
namespace Z
open PySem PySem.Spec PyProof.Rows L2 G
/-- the heap without one address -/
def hid (a : Addr) (H : Hp) : Hp := fun b => if b = a then none else H b
theorem hid_ne {a b : Addr} {H : Hp} (h : b ≠ a) : hid a H b = H b := if_neg h
theorem hid_some {a b : Addr} {H : Hp} {o : HO} (h : hid a H b = some o) : b ≠ a ∧ H b = some o := by
  by_cases e : b = a
  · rw [show hid a H b = none from if_pos e] at h
    cases h
  · exact ⟨e, by rw [hid_ne e] at h; exact h⟩
/-- a pot: three numbers, the first one at least 0, the second one small -/
def Pot (a : Addr) (H : Hp) : Prop := ∃ p q r : Int, H a = some (.lst [.int p, .int q, .int r]) ∧ 0 ≤ p ∧ 0 ≤ q ∧ q < 2 ^ 61
/-- from H to H1 the pot may have changed, all else that was known stays -/
structure Mv (a : Addr) (H H1 : Hp) : Prop where
  same : Same (hid a H) (hid a H1)
  pot : Pot a H1
theorem Pot.some {a : Addr} {H : Hp} (h : Pot a H) : H a ≠ none := by
  obtain ⟨p, q, r, e, _⟩ := h
  rw [e]
  exact fun n => nomatch n
theorem Mv.refl {a : Addr} {H : Hp} (h : Pot a H) : Mv a H H := ⟨Same.refl _, h⟩
theorem Mv.trans {a : Addr} {H H1 H2 : Hp} (m : Mv a H H1) (n : Mv a H1 H2) : Mv a H H2 := ⟨m.same.trans n.same, n.pot⟩
theorem Mv.at {a b : Addr} {H H1 : Hp} {o : HO} (m : Mv a H H1) (ne : b ≠ a) (h : H b = Option.some o) : H1 b = Option.some o :=
  (hid_some (m.same b o (by rw [hid_ne ne]; exact h))).2
/-- what is new behind is new before -/
theorem Mv.free {a p : Addr} {H H1 : Hp} (m : Mv a H H1) (h0 : Pot a H) (h : H1 p = none) : H p = none := by
  cases e : H p with
  | none => rfl
  | some o =>
    by_cases ne : p = a
    · rw [ne] at h
      exact absurd h m.pot.some
    · rw [m.at ne e] at h
      cases h
theorem Pot.keep {a : Addr} {H H1 : Hp} (h : Pot a H) (e : H1 a = H a) : Pot a H1 := by
  obtain ⟨p, q, r, e1, rest⟩ := h
  exact ⟨p, q, r, e.trans e1, rest⟩
/-- a new object -/
theorem Mv.new {a p : Addr} {H H1 : Hp} {o : HO} (m : Mv a H H1) (h : H1 p = none) : Mv a H (upd H1 p o) := by
  have ne : a ≠ p := fun e => m.pot.some (by rw [e]; exact h)
  refine ⟨fun b u e => ?_, m.pot.keep (upd_ne ne)⟩
  obtain ⟨n1, e1⟩ := hid_some (m.same b u e)
  rw [hid_ne n1, upd_ne (ne_of_none e1 h)]
  exact e1
/-- an object that was not known at first may change -/
theorem Mv.upd {a p : Addr} {H H1 : Hp} {o : HO} (m : Mv a H H1) (h0 : Pot a H) (h : H p = none) : Mv a H (upd H1 p o) := by
  have ne : a ≠ p := fun e => h0.some (by rw [e]; exact h)
  refine ⟨fun b u e => ?_, m.pot.keep (upd_ne ne)⟩
  have e0 := (hid_some e).2
  obtain ⟨n1, e1⟩ := hid_some (m.same b u e)
  rw [hid_ne n1, upd_ne (ne_of_none e0 h)]
  exact e1
theorem Mv.ne {a p : Addr} {H H1 : Hp} (h0 : Pot a H) (m : Mv a H H1) (h : H1 p = none) : p ≠ a := fun e => m.pot.some (by rw [← e]; exact h)
/-- sequences beside the pot -/
def Beside (a : Addr) (K : PySem.W.Frag) (H : Hp) (b : Addr) (xs : List V) : Prop := SqL K (hid a H) b xs ∨ SqT K (hid a H) b xs
theorem rd_unhid {a b : Addr} {H : Hp} {u : HO} (h : Rd (hid a H) b u) : Rd H b u := by
  rcases h with h | ⟨o, h⟩
  · exact .inl (hid_some h).2
  · exact .inr ⟨o, (hid_some h).2⟩
theorem sql_unhid {a b : Addr} {K : PySem.W.Frag} {H : Hp} {xs : List V} (h : SqL K (hid a H) b xs) : SqL K H b xs := by
  rcases h with h | h
  · exact .inl (rd_unhid h)
  · exact .inr h
theorem sqt_unhid {a b : Addr} {K : PySem.W.Frag} {H : Hp} {xs : List V} (h : SqT K (hid a H) b xs) : SqT K H b xs := by
  rcases h with h | h
  · exact .inl (rd_unhid h)
  · exact .inr h
theorem Beside.seq {a b : Addr} {K : PySem.W.Frag} {H : Hp} {xs : List V} (h : Beside a K H b xs) : SqL K H b xs ∨ SqT K H b xs := by
  rcases h with h | h
  · exact .inl (sql_unhid h)
  · exact .inr (sqt_unhid h)
theorem same_sqt {K : PySem.W.Frag} {H H1 : Hp} {b : Addr} {xs : List V} (s : Same H H1) (h : SqT K H b xs) : SqT K H1 b xs := by
  rcases h with (h | ⟨o, h⟩) | h
  · exact .inl (.inl (s _ _ h))
  · exact .inl (.inr ⟨o, s _ _ h⟩)
  · exact .inr h
theorem Beside.mv {a b : Addr} {K : PySem.W.Frag} {H H1 : Hp} {xs : List V} (h : Beside a K H b xs) (m : Mv a H H1) : Beside a K H1 b xs := by
  rcases h with h | h
  · exact .inl (m.same.seq h)
  · exact .inr (same_sqt m.same h)
theorem Beside.lst {a b : Addr} {K : PySem.W.Frag} {H : Hp} {xs : List V} (ne : b ≠ a) (h : H b = some (.lst xs)) : Beside a K H b xs := .inl (.inl (.inl (by rw [hid_ne ne]; exact h)))
theorem Beside.tup {a b : Addr} {K : PySem.W.Frag} {H : Hp} {xs : List V} (ne : b ≠ a) (h : H b = some (.tup xs)) : Beside a K H b xs := .inr (.inl (.inl (by rw [hid_ne ne]; exact h)))
/-- a def of the text: where it stands, its function, how its arguments bind -/
structure Def (K : PySem.W.Frag) (mg : Str → Option Value) (x : Str) (st : Stmt) (ps : List Str) (f : Addr) (fd : FuncData) : Prop where
  F : Fun K x x st f fd
  g : mg x = some (.ref f)
  b : Binds K fd ps []
theorem at_0 {α : Type} {x : α} {xs : List α} : atI (x :: xs) 0 = some x := by
  show (ixN (x :: xs).length 0).bind _ = _
  unfold ixN
  simp
theorem atI_lt {α : Type} {xs : List α} {i : Int} {x : α} (h0 : 0 ≤ i) (h : xs[i.toNat]? = some x) : atI xs i = some x := by
  have e : i = ((i.toNat : Nat) : Int) := by omega
  rw [e]
  exact atI_nat h
end Z
/-! Comprehensions and loops, once for all walks: R says where the heap may be. -/
namespace Z
open PySem PySem.Spec PyProof.Rows L2 G
/-- a comprehension over what J walks, from here on -/
def CompOk (J : It) (g : TG) (tt : TT) (te : TE) (vs : List Nat) (σ : L2.St) (H1 : Hp) (Q : VK) : Prop :=
  ∀ L, H1 L = none → ∃ W : Nat → Nat → Hp → Prop, (∃ m, W 0 m (upd H1 L (.lst []))) ∧ ∀ i m H, W i m H →
    (J.stop i H ∧ Q (.ref L) H) ∨ (J.go i H ∧ ∃ Nx : Hp → Prop, (∀ Hn, Nx Hn → ∃ k, k < m ∧ W (i + 1) k Hn) ∧ ∀ x Hy, J.yld i H x Hy → g x (wipe σ vs) Hy fun σ2 H2 => wipe σ2 vs = wipe σ vs ∧ tt σ2 H2 fun b H3 =>
      if b = true then te σ2 H3 fun y H4 => ∃ acc, H4 L = some (.lst acc) ∧ acc.length < sizeLine ∧ Nx (upd H4 L (.lst (acc ++ [y]))) else Nx H3)
/-- a loop over what J walks, from here on -/
def LoopOk (J : It) (g : TG) (tb : TS) (D : Ends) (σ : L2.St) (H1 : Hp) : Prop :=
  ∃ W : Nat → Nat → L2.St → Hp → Prop, (∃ m, W 0 m σ H1) ∧ ∀ i m σ H, W i m σ H →
    (J.stop i H ∧ D.nx σ H) ∨ (J.go i H ∧ ∃ N : L2.St → Hp → Prop, (∀ σn Hn, N σn Hn → ∃ k, k < m ∧ W (i + 1) k σn Hn) ∧ ∀ x Hy, J.yld i H x Hy → g x σ Hy fun σ2 H2 => tb { D with nx := N, ct := N, bk := D.nx } σ2 H2)
section
variable {K : PySem.W.Frag} {σ : L2.St} {H : Hp} {Q : VK} {D : Ends} {te tl : TE} {ta : TA} {wi : TI} {g : TG} {tt : TT} {tb : TS} {vs : List Nat} {j : Nat} {R : It → Hp → Prop}
theorem s_lc (q : wi σ H fun J H1 => CompOk J g tt te vs σ H1 Q) : tLc wi g tt te vs σ H Q := q
theorem s_for (q : wi σ H fun J H1 => LoopOk J g tb D σ H1) : tFor wi g tb D σ H := q
theorem s_iList (q : tl σ H fun x H1 => ∃ a, x = .ref a ∧ (∃ xs, SqL K H1 a xs) ∧ R (Itl K a) H1) : iList K tl σ H R := q
theorem s_iTup (q : tl σ H fun x H1 => ∃ a, x = .ref a ∧ (∃ xs, SqT K H1 a xs) ∧ R (Itt K a) H1) : iTup K tl σ H R := q
theorem s_iStr (q : tl σ H fun x H1 => ∃ z, x = .str z ∧ R (Its z) H1) : iStr tl σ H R := q
theorem s_rng1 (q : ta σ H fun ws H1 => ∃ n : Int, ws = [.int n] ∧ -(2 ^ 62) ≤ n ∧ n < 2 ^ 62 ∧ R (Itr 0 n.toNat) H1) : iRng1 ta σ H R := q
theorem s_rng2 (q : ta σ H fun ws H1 => ∃ i n : Int, ws = [.int i, .int n] ∧ (-(2 ^ 62) ≤ i ∧ i < 2 ^ 62 ∧ -(2 ^ 62) ≤ n ∧ n < 2 ^ 62) ∧ R (Itr i (n - i).toNat) H1) : iRng2 ta σ H R := q
theorem s_ref {a : Addr} {P : Addr → Prop} (q : P a) : ∃ b, V.ref a = .ref b ∧ P b := ⟨a, rfl, q⟩
theorem s_str {z : Str} {P : Str → Prop} (q : P z) : ∃ y, V.str z = .str y ∧ P y := ⟨z, rfl, q⟩
theorem s_one {n : Int} {P : Int → Prop} (q : P n) : ∃ m : Int, [V.int n] = [.int m] ∧ P m := ⟨n, rfl, q⟩
theorem s_gtup {n : Nat} {t : TGs} {v : V} {Q : L2.St → Hp → Prop} (q : ∃ a xs, v = .ref a ∧ SqT K H a xs ∧ xs.length = n ∧ t xs σ H Q) : gTup K n t v σ H Q := q
theorem s_gcons {t : TG} {u : TGs} {v : V} {r : List V} {Q : L2.St → Hp → Prop} (q : t v σ H fun σ1 H1 => u r σ1 H1 Q) : gCons t u (v :: r) σ H Q := ⟨v, r, rfl, q⟩
theorem s_gnil {Q : L2.St → Hp → Prop} (q : Q σ H) : gNil [] σ H Q := ⟨rfl, q⟩
theorem s_yes {Q : Bool → Hp → Prop} (q : Q true H) : tYes σ H Q := q
/-- what a walk hands out, the heap as it was -/
abbrev Hands (y : Nat → V → Prop) : Nat → Hp → V → Hp → Prop := fun i Ha x Hb => Hb = Ha ∧ y i x
/-- where a comprehension stands: M says where the heap may be, Iv what holds of the list so far -/
def At (M : Hp → Prop) (Iv : Nat → List V → Hp → Prop) (L : Addr) (i : Nat) (H : Hp) : Prop := ∃ acc, M H ∧ H L = some (.lst acc) ∧ acc.length ≤ i ∧ Iv i acc H
/-- v is put behind -/
def Put (M : Hp → Prop) (Iv : Nat → List V → Hp → Prop) (L : Addr) (i : Nat) (v : V) (H : Hp) : Prop := ∃ acc, H L = some (.lst acc) ∧ acc.length < sizeLine ∧ At M Iv L (i + 1) (upd H L (.lst (acc ++ [v])))
/-- one turn's wish -/
def Turns (M : Hp → Prop) (Iv : Nat → List V → Hp → Prop) (L : Addr) (i : Nat) (g : TG) (tt : TT) (te : TE) (vs : List Nat) (σ : L2.St) (x : V) (H : Hp) : Prop :=
  g x (wipe σ vs) H fun σ2 H2 => wipe σ2 vs = wipe σ vs ∧ tt σ2 H2 fun b H3 => if b = true then te σ2 H3 fun v H4 => Put M Iv L i v H4 else At M Iv L (i + 1) H3
theorem comp {J : It} {n : Nat} {Gd : Hp → Prop} {y : Nat → V → Prop} (W : Walk J n Gd (Hands y)) (M : Hp → Prop) (Iv : Nat → List V → Hp → Prop) (m0 : M H)
    (mu : ∀ L o H2, H L = none → M H2 → M (upd H2 L o)) (iu : ∀ L o i acc H2, H L = none → M H2 → Iv i acc H2 → Iv i acc (upd H2 L o)) (i0 : Iv 0 [] H) (good : ∀ i acc H2, M H2 → Iv i acc H2 → Gd H2)
    (hs : ∀ L i acc x H2, H L = none → i < n → y i x → acc.length ≤ i → M H2 → H2 L = some (.lst acc) → Iv i acc H2 → Turns M Iv L i g tt te vs σ x H2)
    (done : ∀ L acc H2, H L = none → acc.length ≤ n → M H2 → H2 L = some (.lst acc) → Iv n acc H2 → Q (.ref L) H2) : CompOk J g tt te vs σ H Q := by
  intro L fresh
  refine lc_it W (At M Iv L) ⟨[], mu _ _ _ fresh m0, upd_same, Nat.le_refl _, iu _ _ _ _ _ fresh m0 i0⟩ ?_ ?_ ?_
  · rintro i H2 _ ⟨acc, m, _, _, iv⟩
    exact good i acc H2 m iv
  · rintro i x H2 Hy hi ⟨acc, m, at_, len, iv⟩ ⟨e, hy⟩
    rw [e]
    exact hs L i acc x H2 fresh hi hy len m at_ iv
  · rintro H2 ⟨acc, m, at_, len, iv⟩
    exact done L acc H2 fresh len m at_ iv
theorem put {M : Hp → Prop} {Iv : Nat → List V → Hp → Prop} {L : Addr} {i : Nat} {v : V} {acc : List V} {H0 H5 : Hp} (fresh : H0 L = none) (mu : ∀ L o H2, H0 L = none → M H2 → M (upd H2 L o)) (iu : ∀ L o i acc H2, H0 L = none → M H2 → Iv i acc H2 → Iv i acc (upd H2 L o))
    (at_ : H5 L = some (.lst acc)) (few : i < 1000000) (len : acc.length ≤ i) (m : M H5) (iv : Iv (i + 1) (acc ++ [v]) H5) : Put M Iv L i v H5 := by
  refine ⟨acc, at_, Nat.lt_of_le_of_lt len (Nat.lt_trans few (by decide)), acc ++ [v], mu _ _ _ fresh m, upd_same, ?_, iu _ _ _ _ _ fresh m iv⟩
  rw [List.length_append]
  exact Nat.add_le_add_right len 1
/-- .. where what holds of the list so far may speak of its address -/
theorem comp2 {J : It} {n : Nat} {Gd : Hp → Prop} {y : Nat → V → Prop} (W : Walk J n Gd (Hands y)) (M : Hp → Prop) (Iv : Addr → Nat → List V → Hp → Prop) (m0 : M H)
    (mu : ∀ L o H2, H L = none → M H2 → M (upd H2 L o)) (iu : ∀ L o i acc H2, H L = none → M H2 → Iv L i acc H2 → Iv L i acc (upd H2 L o)) (i0 : ∀ L, H L = none → Iv L 0 [] H) (good : ∀ H2, M H2 → Gd H2)
    (hs : ∀ L i acc x H2, H L = none → i < n → y i x → acc.length ≤ i → M H2 → H2 L = some (.lst acc) → Iv L i acc H2 → Turns M (Iv L) L i g tt te vs σ x H2)
    (done : ∀ L acc H2, H L = none → acc.length ≤ n → M H2 → H2 L = some (.lst acc) → Iv L n acc H2 → Q (.ref L) H2) : CompOk J g tt te vs σ H Q := by
  intro L fresh
  refine lc_it W (At M (Iv L) L) ⟨[], mu _ _ _ fresh m0, upd_same, Nat.le_refl _, iu _ _ _ _ _ fresh m0 (i0 L fresh)⟩ ?_ ?_ ?_
  · rintro i H2 _ ⟨acc, m, _, _, iv⟩
    exact good H2 m
  · rintro i x H2 Hy hi ⟨acc, m, at_, len, iv⟩ ⟨e, hy⟩
    rw [e]
    exact hs L i acc x H2 fresh hi hy len m at_ iv
  · rintro H2 ⟨acc, m, at_, len, iv⟩
    exact done L acc H2 fresh len m at_ iv
theorem put2 {M : Hp → Prop} {Iv : Nat → List V → Hp → Prop} {L : Addr} {i : Nat} {v : V} {acc : List V} {H5 : Hp} (mu : ∀ o H2, M H2 → M (upd H2 L o)) (iu : ∀ o i acc H2, M H2 → Iv i acc H2 → Iv i acc (upd H2 L o))
    (at_ : H5 L = some (.lst acc)) (few : i < 1000000) (len : acc.length ≤ i) (m : M H5) (iv : Iv (i + 1) (acc ++ [v]) H5) : Put M Iv L i v H5 := by
  refine ⟨acc, at_, Nat.lt_of_le_of_lt len (Nat.lt_trans few (by decide)), acc ++ [v], mu _ _ m, upd_same, ?_, iu _ _ _ _ m iv⟩
  rw [List.length_append]
  exact Nat.add_le_add_right len 1
theorem skip {M : Hp → Prop} {Iv : Nat → List V → Hp → Prop} {L : Addr} {i : Nat} {acc : List V} {H5 : Hp} (at_ : H5 L = some (.lst acc)) (len : acc.length ≤ i) (m : M H5) (iv : Iv (i + 1) acc H5) : At M Iv L (i + 1) H5 :=
  ⟨acc, m, at_, Nat.le_succ_of_le len, iv⟩
/-- a turn of a comprehension whose target is a name, without tests -/
theorem turn1 {M : Hp → Prop} {Iv : Nat → List V → Hp → Prop} {L : Addr} {i : Nat} {x : V} (hw : wipe ((wipe σ vs).set j (some x)) vs = wipe σ vs) (q : te ((wipe σ vs).set j (some x)) H fun v H4 => Put M Iv L i v H4) : Turns M Iv L i (gName j) tYes te vs σ x H :=
  ⟨hw, q⟩
theorem turnIf {M : Hp → Prop} {Iv : Nat → List V → Hp → Prop} {L : Addr} {i : Nat} {x : V} (hw : wipe ((wipe σ vs).set j (some x)) vs = wipe σ vs)
    (q : tt ((wipe σ vs).set j (some x)) H fun b H3 => if b = true then te ((wipe σ vs).set j (some x)) H3 fun v H4 => Put M Iv L i v H4 else At M Iv L (i + 1) H3) : Turns M Iv L i (gName j) tt te vs σ x H := ⟨hw, q⟩
/-- a loop -/
theorem loop {J : It} {n : Nat} {Gd : Hp → Prop} {y : Nat → V → Prop} (W : Walk J n Gd (Hands y)) (Iv : Nat → L2.St → Hp → Prop) (i0 : Iv 0 σ H) (good : ∀ i σ2 H2, Iv i σ2 H2 → Gd H2)
    (hs : ∀ i x σ2 H2, i < n → y i x → Iv i σ2 H2 → g x σ2 H2 fun σ3 H3 => tb { D with nx := Iv (i + 1), ct := Iv (i + 1), bk := D.nx } σ3 H3) (done : ∀ σ2 H2, Iv n σ2 H2 → D.nx σ2 H2) : LoopOk J g tb D σ H :=
  for_it W Iv i0 (fun i σ2 H2 _ h => good i σ2 H2 h) (fun i x σ2 H2 Hy hi p ⟨e, hy⟩ => by
    rw [e]
    exact hs i x σ2 H2 hi hy p) done
theorem walkL {a : Addr} {xs : List V} : Walk (Itl K a) xs.length (fun H => SqL K H a xs) (Hands fun i x => xs[i]? = some x) := walk_list
theorem walkT {a : Addr} {xs : List V} : Walk (Itt K a) xs.length (fun H => SqT K H a xs) (Hands fun i x => xs[i]? = some x) := walk_tup
theorem walkR {lo : Int} {n : Nat} : Walk (Itr lo n) n (fun _ => True) (Hands fun i x => x = .int (lo + i)) := walk_range
theorem walkS {z : Str} : Walk (Its z) z.cps.size (fun _ => True) (Hands fun i v => ∃ c, z.cps[i]? = some c ∧ v = .str ⟨#[c]⟩) := walk_str
end
end Z
/-! Texts: joined, small. -/
namespace Z
open PySem PySem.Spec PyProof.Rows L2 G
/-- sep.join(xs) -/
def rJoin (K : PySem.W.Frag) : V → List V → Hp → VK → Prop := fun x vs H Q => match x, vs with
  | .str a, [.ref p] => ∃ ys : List Str, (SqL K H p (ys.map V.str) ∨ SqT K H p (ys.map V.str)) ∧ (ys.map (·.length)).sum + ys.length * a.length ≤ 16777216 ∧ Q (.str (Txt.join a ys)) H
  | _, _ => False
theorem k_join {X : Cx} {K : PySem.W.Frag} {o e : Expr} {to te : TE} {apos pos : Pos} (ho : PE X o to) (he : PE X e te) (h : X.K = K := by rfl) (hs : starEach [e] X.env = [(false, eval e X.env)] := by rfl)
    (hb : attributeBase o "join" X.env (eval o X.env) = eval o X.env := by rfl) (hl : (apos.endLine == pos.line) = true := by rfl) : PE X (.Call (.Attribute o "join" apos) [e] [] pos) (tM1 (rJoin K) to te) := by
  subst h
  refine pe_m1 F.slot_str_join F.type_str_join ?_ ho he hs hb hl
  intro pins s σ H x xs v us Q I rx rs q
  cases x with
  | str a =>
    match xs, q with
    | [.ref p], ⟨ys, h1, h2, h3⟩ => exact mt_join pins s σ H _ _ v us Q I rx rs ⟨a, p, ys, rfl, rfl, h1, h2, h3⟩
  | _ => exact False.elim q
section
variable {σ : L2.St} {H : Hp} {Q : VK} {to te : TE} {r : V → List V → Hp → VK → Prop} {P : Prop} {z : Str}
theorem s_m1 (q : to σ H fun x H1 => (∃ a, x = .str a) ∧ te σ H1 fun y H2 => r x [y] H2 Q) : tM1 r to te σ H Q := q
theorem s_m0 (q : to σ H fun x H1 => (∃ a, x = .str a) ∧ r x [] H1 Q) : tM0 r to σ H Q := q
theorem s_isStr (q : P) : (∃ a, V.str z = .str a) ∧ P := ⟨⟨z, rfl⟩, q⟩
end
theorem joinL_nil : ∀ cs : List Nat, TL.joinL [] (cs.map fun c => [c]) = cs
  | [] => rfl
  | [c] => rfl
  | c :: d :: r => by
    have ih := joinL_nil (d :: r)
    show [c] ++ ([] ++ TL.joinL [] ((d :: r).map fun c => [c])) = c :: d :: r
    rw [ih]
    rfl
/-- signs, put together by nothing -/
theorem join_signs (cs : List Nat) : (Txt.join (Str.ofString "") (cs.map fun c => (⟨#[c]⟩ : Str))).cps.toList = cs := by
  have e : (Str.ofString "").cps.toList = [] := by decide +kernel
  have t := TL.tl_join (Str.ofString "") (cs.map fun c => (⟨#[c]⟩ : Str))
  rw [← TL.join_eq] at t
  refine t.trans ?_
  show TL.joinL (Str.ofString "").cps.toList _ = cs
  rw [e, List.map_map]
  exact joinL_nil cs
theorem signs_sum (cs : List Nat) : ((cs.map fun c => (⟨#[c]⟩ : Str)).map (·.length)).sum = cs.length := by
  induction cs with
  | nil => rfl
  | cons c cs ih =>
    rw [List.map_cons, List.map_cons, List.sum_cons, ih, List.length_cons]
    exact Nat.add_comm 1 _
/-- "".join of signs -/
theorem join_of {K : PySem.W.Frag} {H : Hp} {Q : VK} {p : Addr} {cs : List Nat} (h : SqL K H p (cs.map fun c => V.str ⟨#[c]⟩)) (few : cs.length < 1000000) (q : ∀ z : Str, z.cps.toList = cs → Q (.str z) H) : rJoin K (.str (Str.ofString "")) [.ref p] H Q := by
  refine ⟨cs.map fun c => (⟨#[c]⟩ : Str), .inl ?_, ?_, q _ (join_signs cs)⟩
  · rw [List.map_map]
    exact h
  · have e : (Str.ofString "").length = 0 := by decide +kernel
    rw [signs_sum, e, Nat.mul_zero]
    omega
/-! ### words of letters -/
def letB (c : Nat) : Bool := decide (97 ≤ c) && decide (c ≤ 122)
/-- a word of one to n letters from a to z -/
def wordB (n : Nat) (z : Str) : Bool := decide (0 < z.cps.size) && decide (z.cps.size ≤ n) && z.cps.toList.all letB
/-- a name -/
def nameB (z : Str) : Bool := wordB 8 z && !decide (z = Str.ofString "end")
theorem wordB_of {n : Nat} {z : Str} {cs : List Nat} (e : z.cps.toList = cs) (h0 : 0 < cs.length) (h1 : cs.length ≤ n) (h : ∀ c ∈ cs, letB c = true) : wordB n z = true := by
  unfold wordB
  have l : z.cps.size = cs.length := by
    rw [← e, Array.length_toList]
  rw [e, l, decide_eq_true h0, decide_eq_true h1, Bool.true_and, Bool.true_and]
  exact List.all_eq_true.mpr h
theorem wordB_len {n : Nat} {z : Str} (h : wordB n z = true) : 0 < z.length ∧ z.length ≤ n ∧ ∀ c ∈ z.cps.toList, letB c = true := by
  unfold wordB at h
  simp only [Bool.and_eq_true, decide_eq_true_eq, List.all_eq_true] at h
  exact ⟨h.1.1, h.1.2, h.2⟩
/-- one of some texts, all of which are so -/
theorem one_of {P : Str → Prop} {zs : List Str} {v : V} (h : ∀ z ∈ zs, P z) (m : v ∈ zs.map V.str) : ∃ z, v = .str z ∧ P z := by
  obtain ⟨z, hz, e⟩ := List.mem_map.mp m
  exact ⟨z, e.symm, h z hz⟩
theorem all_of {P : Str → Bool} {zs : List Str} (h : zs.all P = true) : ∀ z ∈ zs, P z = true := List.all_eq_true.mp h
/-! ### signs: letters, each later than the one ahead -/
def upB : List Nat → Bool
  | [] => true
  | [_] => true
  | c :: d :: r => decide (c < d) && upB (d :: r)
/-- signs of a stream -/
def signsB (z : Str) : Bool := wordB 4 z && upB z.cps.toList
theorem perm_map_inv {α β : Type} {f : α → β} {g : β → α} (hg : ∀ x, g (f x) = x) {ys : List β} {l : List α} (p : ys.Perm (l.map f)) : ∃ cs : List α, cs.Perm l ∧ ys = cs.map f := by
  refine ⟨ys.map g, ?_, ?_⟩
  · have q := p.map g
    rw [List.map_map, show g ∘ f = id from funext hg, List.map_id] at q
    exact q
  · rw [List.map_map]
    have : ∀ y ∈ ys, (f ∘ g) y = y := by
      intro y hy
      obtain ⟨x, _, e⟩ := List.mem_map.mp (p.mem_iff.mp hy)
      rw [← e]
      show f (g (f x)) = f x
      rw [hg]
    exact (List.map_id ys).symm.trans (List.map_congr_left fun y hy => (this y hy).symm)
theorem cut_take (xs : List V) {i : Int} (h : 0 ≤ i) : cutV xs none (some i) = xs.take i.toNat := by
  unfold cutV
  have e : i = ((i.toNat : Nat) : Int) := by omega
  rw [e, HT.sIx_none, HT.sIx_nat, List.drop_zero, Nat.sub_zero, Int.toNat_natCast]
  rw [List.take_eq_take_iff]
  omega
theorem cut_drop (xs : List V) {i : Int} (h : 0 ≤ i) : cutV xs (some i) none = xs.drop i.toNat := by
  unfold cutV
  have e : i = ((i.toNat : Nat) : Int) := by omega
  rw [e, HT.sIx_none, HT.sIx_nat, Int.toNat_natCast]
  by_cases c : i.toNat ≤ xs.length
  · rw [Nat.min_eq_left c, ← List.length_drop]
    exact List.take_length
  · have c2 : xs.length ≤ i.toNat := by omega
    rw [Nat.min_eq_right c2, List.drop_length, List.drop_eq_nil_of_le c2, List.take_nil]
theorem up_of : ∀ (cs : List Nat), sortedS (cs.map fun c => (⟨#[c]⟩ : Str)) = true → cs.Nodup → upB cs = true
  | [], _, _ => rfl
  | [_], _, _ => rfl
  | c :: d :: r, h, nd => by
    have h1 : (!ltCps [d] [c] && risingS ⟨#[d]⟩ (r.map fun c => (⟨#[c]⟩ : Str))) = true := h
    rw [Bool.and_eq_true] at h1
    have ih := up_of (d :: r) h1.2 (List.nodup_cons.mp nd).2
    have ne : c ≠ d := fun e => (List.nodup_cons.mp nd).1 (by rw [e]; exact List.mem_cons_self)
    have lt : ¬ d < c := by
      intro z
      have : ltCps [d] [c] = true := by
        show (decide (d < c) || _) = true
        rw [decide_eq_true z, Bool.true_or]
      rw [this] at h1
      exact Bool.noConfusion h1.1
    show (decide (c < d) && upB (d :: r)) = true
    rw [ih, decide_eq_true (show c < d by omega)]
    rfl
end Z
/-! Data of any depth on the heap: lists, tuples, dicts, texts, numbers. -/
namespace Z
open PySem PySem.Spec PyProof.Rows L2 G
mutual
/-- v is the data d -/
inductive Dz (K : PySem.W.Frag) (H : Hp) : V → PyData → Prop
  | non : Dz K H .non .none
  | bl (b : Bool) : Dz K H (.bl b) (.bool b)
  | int (i : Int) : Dz K H (.int i) (.int i)
  | str (x : Str) : Dz K H (.str x) (.str x)
  | lst {a : Addr} {xs : List V} {ds : List PyData} : SqL K H a xs → DzAll K H xs ds → Dz K H (.ref a) (.list ds)
  | tup {a : Addr} {xs : List V} {ds : List PyData} : SqT K H a xs → DzAll K H xs ds → Dz K H (.ref a) (.tuple ds)
  | dic {a : Addr} {kvs : List (Key × V)} {es : List (PyData × PyData)} : H a = some (.dK kvs) → DzAll K H (kvs.map fun p => kV p.1) (es.map (·.1)) → DzAll K H (kvs.map (·.2)) (es.map (·.2)) → Dz K H (.ref a) (.dict es)
inductive DzAll (K : PySem.W.Frag) (H : Hp) : List V → List PyData → Prop
  | nil : DzAll K H [] []
  | cons {v : V} {vs : List V} {d : PyData} {ds : List PyData} : Dz K H v d → DzAll K H vs ds → DzAll K H (v :: vs) (d :: ds)
end
section
variable {K : PySem.W.Frag} {H H1 : Hp}
mutual
theorem Dz.same (s : Same H H1) : ∀ (d : PyData) (v : V), Dz K H v d → Dz K H1 v d
  | .none, _, h => by
    cases h
    exact .non
  | .bool b, _, h => by
    cases h
    exact .bl b
  | .int i, _, h => by
    cases h
    exact .int i
  | .str x, _, h => by
    cases h
    exact .str x
  | .list ds, _, h => by
    cases h with
    | lst a b => exact .lst (s.seq a) (DzAll.same s ds _ b)
  | .tuple ds, _, h => by
    cases h with
    | tup a b => exact .tup (same_sqt s a) (DzAll.same s ds _ b)
  | .dict es, _, h => by
    cases h with
    | dic a b c => exact .dic (s _ _ a) (DzAll.sameK s es _ b) (DzAll.sameV s es _ c)
theorem DzAll.same (s : Same H H1) : ∀ (ds : List PyData) (vs : List V), DzAll K H vs ds → DzAll K H1 vs ds
  | [], _, h => by
    cases h
    exact .nil
  | d :: ds, _, h => by
    cases h with
    | cons a b => exact .cons (Dz.same s d _ a) (DzAll.same s ds _ b)
theorem DzAll.sameK (s : Same H H1) : ∀ (es : List (PyData × PyData)) (vs : List V), DzAll K H vs (es.map (·.1)) → DzAll K H1 vs (es.map (·.1))
  | [], _, h => by
    cases h
    exact .nil
  | (k, x) :: es, _, h => by
    cases h with
    | cons a b => exact .cons (Dz.same s k _ a) (DzAll.sameK s es _ b)
theorem DzAll.sameV (s : Same H H1) : ∀ (es : List (PyData × PyData)) (vs : List V), DzAll K H vs (es.map (·.2)) → DzAll K H1 vs (es.map (·.2))
  | [], _, h => by
    cases h
    exact .nil
  | (k, x) :: es, _, h => by
    cases h with
    | cons a b => exact .cons (Dz.same s x _ a) (DzAll.sameV s es _ b)
end
theorem same_hid {a : Addr} : Same (hid a H) H := fun _ _ e => (hid_some e).2
theorem Dz.mv {a : Addr} {v : V} {d : PyData} (h : Dz K (hid a H) v d) (m : Mv a H H1) : Dz K (hid a H1) v d := Dz.same m.same d v h
theorem DzAll.mv {a : Addr} {vs : List V} {ds : List PyData} (h : DzAll K (hid a H) vs ds) (m : Mv a H H1) : DzAll K (hid a H1) vs ds := DzAll.same m.same ds vs h
theorem Dz.un {a : Addr} {v : V} {d : PyData} (h : Dz K (hid a H) v d) : Dz K H v d := Dz.same same_hid d v h
theorem DzAll.un {a : Addr} {vs : List V} {ds : List PyData} (h : DzAll K (hid a H) vs ds) : DzAll K H vs ds := DzAll.same same_hid ds vs h
theorem DzAll.len : ∀ {vs : List V} {ds : List PyData}, DzAll K H vs ds → vs.length = ds.length
  | [], [], _ => rfl
  | _ :: vs, _ :: ds, h => by
    cases h with
    | cons _ b => exact congrArg (· + 1) (DzAll.len b)
theorem DzAll.app : ∀ {vs ws : List V} {ds es : List PyData}, DzAll K H vs ds → DzAll K H ws es → DzAll K H (vs ++ ws) (ds ++ es)
  | [], _, [], _, _, h => h
  | _ :: vs, _, _ :: ds, _, h, g => by
    cases h with
    | cons a b => exact .cons a (DzAll.app b g)
theorem DzAll.take : ∀ {vs : List V} {ds : List PyData} (n : Nat), DzAll K H vs ds → DzAll K H (vs.take n) (ds.take n)
  | _, _, 0, _ => .nil
  | [], [], _ + 1, h => .nil
  | _ :: vs, _ :: ds, n + 1, h => by
    cases h with
    | cons a b => exact .cons a (DzAll.take n b)
theorem DzAll.drop : ∀ {vs : List V} {ds : List PyData} (n : Nat), DzAll K H vs ds → DzAll K H (vs.drop n) (ds.drop n)
  | _, _, 0, h => h
  | [], [], _ + 1, h => .nil
  | _ :: vs, _ :: ds, n + 1, h => by
    cases h with
    | cons a b => exact DzAll.drop n b
theorem DzAll.get : ∀ {vs : List V} {ds : List PyData} {i : Nat} {v : V}, DzAll K H vs ds → vs[i]? = some v → ∃ d, ds[i]? = some d ∧ Dz K H v d
  | _ :: vs, _ :: ds, 0, v, h, e => by
    cases h with
    | cons a b =>
      have e2 := Option.some.inj e
      subst e2
      exact ⟨_, rfl, a⟩
  | _ :: vs, _ :: ds, i + 1, v, h, e => by
    cases h with
    | cons a b => exact DzAll.get (i := i) b e
  | [], [], i, v, h, e => by simp at e
theorem DzAll.strs : ∀ zs : List Str, DzAll K H (zs.map V.str) (zs.map PyData.str)
  | [] => .nil
  | z :: zs => .cons (.str z) (DzAll.strs zs)
end
/-- a pair of a name and signs -/
abbrev prD (p : Str × Str) : PyData := .tuple [.str p.1, .str p.2]
/-- sources and sinks as they are drawn -/
structure Parts (most : Int) (ps qs : List (Str × Str)) : Prop where
  one : 1 ≤ ps.length
  few : (ps.length : Int) ≤ most
  few2 : (qs.length : Int) ≤ most
  nd : ((ps ++ qs).map (·.1)).Nodup
  name : ∀ p ∈ ps ++ qs, nameB p.1 = true
  sig : ∀ p ∈ ps ++ qs, signsB p.2 = true
end Z
/-! zip of two texts. -/
namespace Z
open PySem PySem.Spec PyProof.Rows L2 G
/-- the signs of both, in new pairs -/
def ItzS (x y : Str) : It :=
  ⟨fun i _ => i < x.cps.size ∧ i < y.cps.size,
    fun i H v H1 => ∃ (T : Addr) (c d : Nat), v = .ref T ∧ H T = none ∧ H1 = upd H T (.tup [.str ⟨#[c]⟩, .str ⟨#[d]⟩]) ∧ x.cps[i]? = some c ∧ y.cps[i]? = some d,
    fun i _ => i ≤ x.cps.size ∧ i ≤ y.cps.size ∧ (i = x.cps.size ∨ i = y.cps.size)⟩
/-- the iterator's five cells at turn i -/
structure ZS (z TI TO i1 i2 : Addr) (x y : Str) (t u : Tok) (i : Nat) (h : Heap) : Prop where
  zip : IsZip h z TI TO .none
  ti : IsTupOf2 h TI (.ref i1) (.ref i2)
  to : ∃ a b, IsTupOf2 h TO a b
  one : h.IsStrIter i1 (strIterType x) x t i
  two : h.IsStrIter i2 (strIterType y) y u i
theorem ZS.five {z TI TO i1 i2 : Addr} {x y : Str} {t u : Tok} {i : Nat} {h : Heap} (st : ZS z TI TO i1 i2 x y t u i h) : ∀ b ∈ [z, TI, TO, i1, i2], ∃ o, h.get? b = some o ∧ ∀ v, o.data ≠ .cell v := by
  intro b hb
  obtain ⟨a, c, e0⟩ := st.to
  obtain ⟨o1, e1, _, d1⟩ := st.one
  obtain ⟨o2, e2, _, d2⟩ := st.two
  have five : b = z ∨ b = TI ∨ b = TO ∨ b = i1 ∨ b = i2 := by simpa using hb
  rcases five with e | e | e | e | e
  · rw [e]
    exact ⟨_, st.zip, fun v n => nomatch n⟩
  · rw [e]
    exact ⟨_, st.ti, fun v n => nomatch n⟩
  · rw [e]
    exact ⟨_, e0, fun v n => nomatch n⟩
  · refine ⟨o1, by rw [e]; exact e1, fun v n => ?_⟩
    rw [d1] at n
    cases n
  · refine ⟨o2, by rw [e]; exact e2, fun v n => ?_⟩
    rw [d2] at n
    cases n
theorem ZS.stays {z TI TO i1 i2 : Addr} {x y : Str} {t u : Tok} {i : Nat} {h h1 : Heap} (st : ZS z TI TO i1 i2 x y t u i h) (k : ∀ b ∈ [z, TI, TO, i1, i2], ∀ o, h.get? b = some o → h1.get? b = some o) : ZS z TI TO i1 i2 x y t u i h1 := by
  obtain ⟨a, c, e0⟩ := st.to
  obtain ⟨o1, e1, r1⟩ := st.one
  obtain ⟨o2, e2, r2⟩ := st.two
  exact ⟨k z (by simp) _ st.zip, k TI (by simp) _ st.ti, ⟨a, c, k TO (by simp) _ e0⟩, ⟨o1, k i1 (by simp) _ e1, r1⟩, ⟨o2, k i2 (by simp) _ e2, r2⟩⟩
theorem turnZipS {P : Program} {w : World} {K : PySem.W.Frag} {elts : List Expr} {kk : Nat} {tpos : Pos} {x y : Str} {t u : Tok} {z TI TO i1 i2 : Addr} (S : ZipSep2 z TI TO i1 i2 [i1] [i2]) :
    Turn P w K (.Tuple elts kk tpos) (ItzS x y) [z, TI, TO, i1, i2] z (ZS z TI TO i1 i2 x y t u) where
  mem := List.mem_cons_self
  obj := fun i h st => st.five
  keep := fun i h h1 st k => st.stays k
  self := fun A i s Q E st q => wpAny_pyIter_zip st.zip q
  item := by
    intro X eP ew eK calm i pins s σ H E I cells st ⟨lt1, lt2⟩
    subst eP ew eK
    obtain ⟨a0, b0, eTO⟩ := st.to
    have inH : ∀ b ∈ [z, TI, TO, i1, i2], b < s.heap.objs.size := by
      intro b hb
      obtain ⟨o, e, _⟩ := st.five b hb
      exact Heap.lt_size e
    have zlt := inH z (by simp)
    have D1 := Draws.text (prog := X.prog) (w := X.w) (A := X.A.in1) (I.ok.hd calm) i1 x t
    have D2 := Draws.text (prog := X.prog) (w := X.w) (A := X.A.in1) (I.ok.hd calm) i2 y u
    refine wpAny_pyNext_zipD2_item S D1 D2 st.zip st.ti eTO st.one st.two lt1 lt2 ?_
    rintro v1 v2 h1 tk ⟨c, t1, ec, rfl⟩ ⟨d, t2, ed, rfl⟩ z1 to1 one1 two1 new1 sz keep1
    refine ⟨_, rfl, ?_⟩
    refine wpAny_letOwnedTupleGo_zip (s := { s with heap := h1, toks := tk }) z1 ?_
    intro h2 z2 same
    have new2 : IsTupOf2 h2 s.heap.objs.size (.str ⟨#[c]⟩ t1) (.str ⟨#[d]⟩ t2) := (same.2 _ (Nat.ne_of_gt zlt)).trans new1
    have ok : ObjOk X.prog X.w (upd H s.heap.objs.size (.tup [.str ⟨#[c]⟩, .str ⟨#[d]⟩])) h2 s.heap.objs.size (.tup [.str ⟨#[c]⟩, .str ⟨#[d]⟩]) :=
      ⟨by show 2 ≤ sizeLine; decide, [.str ⟨#[c]⟩ t1, .str ⟨#[d]⟩ t2], .cons ⟨_, rfl⟩ (.cons ⟨_, rfl⟩ .nil), ⟨_, new2, rfl, _, rfl⟩⟩
    have stay : ∀ b o, b ∉ [z, TI, TO, i1, i2] → s.heap.get? b = some o → h2.get? b = some o := by
      intro b o nb e
      have n : b ≠ z ∧ b ≠ TO ∧ b ≠ i1 ∧ b ≠ i2 := ⟨fun q => nb (by simp [q]), fun q => nb (by simp [q]), fun q => nb (by simp [q]), fun q => nb (by simp [q])⟩
      exact (same.2 b n.1).trans (keep1 b o n.1 n.2.1 n.2.2.1 n.2.2.2 e)
    have J : Inv X pins σ (upd H s.heap.objs.size (.tup [.str ⟨#[c]⟩, .str ⟨#[d]⟩])) { s with heap := h2, toks := tk } :=
      I.turnedNew (t' := tk) stay cells (Nat.le_refl _) ok
    refine ⟨.ref s.heap.objs.size, _, J, rfl, ⟨_, c, d, rfl, I.hok.fresh (Nat.le_refl _), rfl, ec, ed⟩, ?_, ?_⟩
    · obtain ⟨o1, g1, r1⟩ := one1
      obtain ⟨o2, g2, r2⟩ := two1
      refine ⟨z2, ?_, ⟨_, _, (same.2 _ S.TOz).trans to1⟩, ⟨o1, (same.2 _ S.zi1.symm).trans g1, r1⟩, ⟨o2, (same.2 _ S.zi2.symm).trans g2, r2⟩⟩
      exact (same.2 _ S.TIz).trans (keep1 _ _ S.TIz S.TITO S.TIi1 S.TIi2 st.ti)
    · intro b hb
      rw [upd_ne (Nat.ne_of_lt (inH b hb))]
      exact (cells b hb).1
  done := by
    intro X eP ew eK calm i pins s σ H E I cells st ⟨le1, le2, ends⟩
    subst eP ew eK
    obtain ⟨a0, b0, eTO⟩ := st.to
    have D1 := Draws.text (prog := X.prog) (w := X.w) (A := X.A.in1) (I.ok.hd calm) i1 x t
    have D2 := Draws.text (prog := X.prog) (w := X.w) (A := X.A.in1) (I.ok.hd calm) i2 y u
    refine wpAny_pyNext_zipD2_end S D1 D2 st.zip st.ti eTO st.one st.two le1 le2 ends ?_
    intro h1 tk keep1
    refine ⟨rfl, I.turnedL (t' := tk) (ch := [z, TI, TO, i1, i2]) ?_ cells⟩
    intro b o nb e
    exact keep1 b o (fun q => nb (by simp [q])) (fun q => nb (by simp [q])) (fun q => nb (by simp [q])) (fun q => nb (by simp [q])) e
theorem sep (n : Nat) : ZipSep2 (n + 4) (n + 2) (n + 3) n (n + 1) [n] [n + 1] where
  TIz := by show ¬ (n + 2 = n + 4); omega
  TOz := by show ¬ (n + 3 = n + 4); omega
  TITO := by show ¬ (n + 2 = n + 3); omega
  TIi1 := by show ¬ (n + 2 = n); omega
  mem1 := List.mem_singleton.mpr rfl
  zf1 := fun h => by have := List.mem_singleton.mp h; have q : n + 4 = n := this; omega
  Tf1 := fun h => by have := List.mem_singleton.mp h; have q : n + 3 = n := this; omega
  TIi2 := by show ¬ (n + 2 = n + 1); omega
  mem2 := List.mem_singleton.mpr rfl
  zf2 := fun h => by have := List.mem_singleton.mp h; have q : n + 4 = n + 1 := this; omega
  Tf2 := fun h => by have := List.mem_singleton.mp h; have q : n + 3 = n + 1 := this; omega
  sep1_2 := fun h => by have := List.mem_singleton.mp h; have q : n = n + 1 := this; omega
  sep2_1 := fun h => by have := List.mem_singleton.mp h; have q : n + 1 = n := this; omega
def iZipS (ta : TA) : TI := fun σ H R => ta σ H fun vs H1 => ∃ x y : Str, vs = [.str x, .str y] ∧ R (ItzS x y) H1
theorem pi_zipS {X : Cx} {e e2 : Expr} {ta : TA} {p pos tpos : Pos} {elts : List Expr} {kk : Nat} (hg : Gl X "zip") (hm : X.mg "zip" = none) (ha : PA X [e, e2] ta)
    (st : starEach [e, e2] X.env = (false, eval e X.env) :: starEach [e2] X.env := by rfl) (pl : (backTo pos (starEach [e2] X.env)).any (·.1) = false := by rfl) : PI X (.Tuple elts kk tpos) (.Call (.Name "zip" p) [e, e2] [] pos) (iZipS ta) := by
  refine ⟨?_⟩
  intro pins s σ H R I want
  refine Call_ (ld_blt I hg hm PyProof.Rows.boot_zip (PyProof.Rows.callWith_type1 (thn (ha.run pos pins s σ H _ I want) ?_) st pl))
  rintro us s1 ⟨vs, H1, I1, r1, x, y, ev, q⟩
  subst ev
  obtain ⟨t, u, rfl⟩ : ∃ t u, us = [.str x t, .str y u] := by
    cases r1 with
    | cons a b =>
      cases b with
      | cons c d =>
        cases d
        obtain ⟨t, rfl⟩ := a
        obtain ⟨u, rfl⟩ := c
        exact ⟨t, u, rfl⟩
  refine zip_begins2 (begins_text x t) (begins_text y u) trivial trivial ?_
  intro h1 zip ti to one two sz keep
  refine wpAny_pyIter_zip zip ?_
  have I2 : Inv X pins σ H1 { s1 with heap := h1 } := I1.kept (t' := s1.toks) keep
  have S := sep s1.heap.objs.size
  refine ⟨s1.heap.objs.size + 4, [s1.heap.objs.size + 4, s1.heap.objs.size + 2, s1.heap.objs.size + 3, s1.heap.objs.size, s1.heap.objs.size + 1], _, _, H1, rfl, I2, turnZipS (x := x) (y := y) (t := t) (u := u) S, ⟨zip, ti, ⟨_, _, to⟩, ⟨_, one, rfl, rfl⟩, ⟨_, two, rfl, rfl⟩⟩, ?_, q⟩
  intro b hb
  have le : s1.heap.objs.size ≤ b := by
    rcases (by simpa using hb : b = s1.heap.objs.size + 4 ∨ b = s1.heap.objs.size + 2 ∨ b = s1.heap.objs.size + 3 ∨ b = s1.heap.objs.size ∨ b = s1.heap.objs.size + 1) with e | e | e | e | e
    all_goals (rw [e]; first | exact Nat.le_add_right _ _ | exact Nat.le_refl _)
  exact I1.fpOk le (I1.hok.fresh le)
end Z
local macro_rules | `(tactic| walk_at "st") => `(tactic| repeat (first
  | ((with_reducible refine' Z.s_var ?h ?_); (case h => exact rfl))
  | with_reducible refine Z.s_c ?_
  | with_reducible refine Z.s_op ?_
  | with_reducible refine Z.s_un ?_
  | with_reducible refine Z.s_nil ?_
  | with_reducible refine Z.s_cons ?_
  | with_reducible refine Z.s_cb ?_
  | with_reducible refine Z.s_call ?_
  | with_reducible refine Z.s_tup ?_
  | with_reducible refine Z.s_lst ?_
  | with_reducible refine Z.s_test ?_
  | with_reducible refine Z.s_B ?_
  | with_reducible refine Z.s_and ?_
  | with_reducible refine Z.s_or ?_
  | with_reducible refine Z.s_not ?_
  | with_reducible refine Z.s_andV ?_
  | with_reducible refine Z.s_orV ?_
  | with_reducible refine Z.s_notV ?_
  | with_reducible refine Z.s_if ?_
  | with_reducible refine Z.s_chain ?_
  | with_reducible refine Z.s_seq ?_
  | with_reducible refine Z.s_next ?_
  | with_reducible refine Z.s_drop ?_
  | with_reducible refine Z.s_ret ?_
  | with_reducible refine Z.s_ifS ?_
  | with_reducible refine Z.s_asg ?_
  | with_reducible refine Z.s_name ?_
  | with_reducible refine Z.s_par ?_
  | with_reducible refine Z.s_item ?_
  | with_reducible refine Z.s_part ?_
  | with_reducible refine Z.s_noPart ?_
  | with_reducible refine Z.s_cut ?_
  | with_reducible refine Z.s_bm0 ?_
  | with_reducible refine Z.s_bm ?_
  | with_reducible refine Z.s_bl (P := _) ?_
  | with_reducible refine Z.s_two (P := _) ?_
  | with_reducible refine Z.s_int (P := _) ?_
  | with_reducible refine Z.a_addI ?_
  | with_reducible refine Z.a_subI ?_
  | with_reducible refine Z.a_ltI ?_
  | with_reducible refine Z.a_leI ?_
  | with_reducible refine Z.a_gtI ?_
  | with_reducible refine Z.a_geI ?_
  | with_reducible refine Z.a_eqI ?_
  | with_reducible refine Z.a_neI ?_
  | with_reducible refine Z.a_eqS ?_
  | with_reducible refine Z.a_neS ?_
  | with_reducible refine Z.a_eqB ?_
  | with_reducible refine Z.a_neB ?_
  | with_reducible refine Z.a_isN ?_
  | with_reducible refine Z.a_notN ?_
  | with_reducible refine Z.a_setL ?_
  | with_reducible refine Z.a_int ?_
  | with_reducible refine Z.a_intB ?_
  | with_reducible refine Z.a_abs ?_
  | with_reducible refine Z.a_max ?_
  | with_reducible refine Z.a_min ?_
  | with_reducible refine Z.s_lc ?_
  | with_reducible refine Z.s_for ?_
  | with_reducible refine Z.s_iList ?_
  | with_reducible refine Z.s_iTup ?_
  | with_reducible refine Z.s_iStr ?_
  | with_reducible refine Z.s_rng1 ?_
  | with_reducible refine Z.s_rng2 ?_
  | with_reducible refine Z.s_gtup ?_
  | with_reducible refine Z.s_gcons ?_
  | with_reducible refine Z.s_gnil ?_
  | with_reducible refine Z.s_yes ?_
  | with_reducible refine Z.s_ref (P := _) ?_
  | with_reducible refine Z.s_str (P := _) ?_
  | with_reducible refine Z.s_one (P := _) ?_
  | with_reducible refine Z.s_m1 ?_
  | with_reducible refine Z.s_m0 ?_
  | with_reducible refine Z.s_isStr ?_))
namespace Z
open PySem PySem.Spec PyProof.Rows L2 G
def topS (i : Nat) : Stmt := PySem.Challenge.pw_fewersteps_k00_names_signs_and_streams_j.main.body.getD i (.Pass ⟨0, 0, 0, 0⟩)
/-- the builtins' names are free -/
structure Txt (mg : Str → Option Value) : Prop where
  int : mg "int" = none
  len : mg "len" = none
  list : mg "list" = none
  range : mg "range" = none
  sorted : mg "sorted" = none
  tuple : mg "tuple" = none
section
variable {P : Program} {w : World} {K : PySem.W.Frag} {mg : Str → Option Value} {base : Heap}
def spDip : Sp := fun vs H Q _ => ∃ a n, vs = [.ref a, .int n] ∧ Pot a H ∧ 0 < n ∧ n < 1073741824 ∧ ∀ H1 r, Mv a H H1 → 0 ≤ r → r < n → Q (.int r) H1
theorem potItem {a : Addr} {H : Hp} {p q r : Int} (h : H a = some (.lst [.int p, .int q, .int r])) {Q : VK} {i : Int} {z : Int} (hi : atI [V.int p, V.int q, V.int r] i = some (.int z)) (k : Q (.int z) H) : Z.rItem K (.ref a) (.int i) H Q :=
  ⟨_, _, .inl (SqL.of h), hi, k⟩
theorem mv_pot {a : Addr} {H : Hp} {p q r p' q' r' : Int} (h : H a = some (.lst [.int p, .int q, .int r])) (p0 : 0 ≤ p') (q0 : 0 ≤ q') (q1 : q' < 2 ^ 61) : Mv a H (upd H a (.lst [.int p', .int q', .int r'])) := by
  refine ⟨fun b o e => ?_, p', q', r', upd_same, p0, q0, q1⟩
  obtain ⟨n, e⟩ := hid_some e
  rw [hid_ne n, upd_ne n]
  exact e
abbrev s_law_dip : Stmt := topS 20
theorem sc_law_dip : FnScope ["pot", "total", "found", "one", "two"] ["pot", "total"] (defScope s_law_dip) := ⟨rfl, rfl, rfl, by decide +kernel, rfl, by decide +kernel, by decide +kernel⟩
theorem ok_dip {f : Addr} {fd : FuncData} (T : Txt mg) (D : Def K mg "_law_dip" s_law_dip ["pot", "total"] f fd) : FnOk P w K mg base CX0 1 f fd ["pot", "total"] spDip := by
  refine D.F.ok sc_law_dip (fun vs H Q E h => ?_) (fun cdv A outer s H vs Q E hr h => ?_)
  · obtain ⟨a, n, rfl, _⟩ := h
    rfl
  · obtain ⟨a, n, rfl, ⟨p, q, r, hp, p0, q0, q1⟩, n0, n1, k⟩ := h
    refine ⟨_, (pss_cons (ps_if (pt_cmpR Z.op_gt (pe_ix (Z.k_item (K := K)) (pv 0) pe_int (fun _ _ => rfl)) pe_int (nomark _))
  (pss_cons (ps_set (i := 2) sc_law_dip.nd rfl (by first | exact Or.inl rfl | exact Or.inr rfl) (pe_op Z.op_mod (pe_callTy Z.call_int (by rfl) T.int (by decide +kernel) (pa_cons (pe_ix (Z.k_item (K := K)) (pv 0) pe_int (fun _ _ => rfl)) pa_nil)) (pv 1)))
 (pss_cons (ps_asg (pe_op Z.op_div (pe_ix (Z.k_item (K := K)) (pv 0) pe_int (fun _ _ => rfl)) (pv 1)) (pg_sub (pv 0) pe_int set_list))
 (pss_one (ps_ret (pv 2)))))
  pss_nil)
 (pss_cons (ps_asg (pe_op (Z.k_add (K := K)) (pe_ix (Z.k_item (K := K)) (pv 0) pe_int (fun _ _ => rfl)) pe_int) (pg_sub (pv 0) pe_int set_list))
 (pss_cons (ps_set (i := 3) sc_law_dip.nd rfl (by first | exact Or.inl rfl | exact Or.inr rfl) (pe_op Z.op_mod (pe_callTy Z.call_int (by rfl) T.int (by decide +kernel) (pa_cons (pe_op (Z.k_add (K := K)) (pe_op Z.op_mul (pe_ix (Z.k_item (K := K)) (pv 0) pe_int (fun _ _ => rfl)) pe_int) (pe_op Z.op_mul (pe_ix (Z.k_item (K := K)) (pv 0) pe_int (fun _ _ => rfl)) pe_int)) pa_nil)) pe_int))
 (pss_cons (ps_set (i := 4) sc_law_dip.nd rfl (by first | exact Or.inl rfl | exact Or.inr rfl) (pe_op Z.op_mod (pe_callTy Z.call_int (by rfl) T.int (by decide +kernel) (pa_cons (pe_op (Z.k_add (K := K)) (pe_op Z.op_mul (pv 3) (pv 3)) (pe_op Z.op_mul pe_int (pe_ix (Z.k_item (K := K)) (pv 0) pe_int (fun _ _ => rfl)))) pa_nil)) pe_int))
 (pss_one (ps_ret (pe_op Z.op_mod (pe_callTy Z.call_int (by rfl) T.int (by decide +kernel) (pa_cons (pe_op Z.op_div (pe_op Z.op_mod (pe_callTy Z.call_int (by rfl) T.int (by decide +kernel) (pa_cons (pe_op (Z.k_add (K := K)) (pe_op Z.op_mul (pv 4) pe_int) (pv 3)) pa_nil)) pe_int) pe_int) pa_nil)) (pv 1)))))))), ?_⟩
    walk_at "st"
    refine potItem hp (z := p) (by rfl) ?_
    walk_at "st"
    refine ite2 (fun c => ?_) (fun c => ?_)
    · have pp : 0 < p := of_decide_eq_true c
      walk_at "st"
      refine potItem hp (z := p) (by rfl) ?_
      walk_at "st"
      refine a_mod ⟨n0, ?_⟩
      walk_at "st"
      refine potItem hp (z := p) (by rfl) ?_
      walk_at "st"
      refine a_div ⟨⟨n0, n1⟩, ?_⟩
      walk_at "st"
      refine ⟨_, 0, hp, rfl, ?_⟩
      walk_at "st"
      exact k _ _ (mv_pot hp (Int.ediv_nonneg p0 (by omega)) q0 q1) (Int.emod_nonneg _ (by omega)) (Int.emod_lt_of_pos _ n0)
    · walk_at "st"
      refine potItem hp (z := r) (by rfl) ?_
      walk_at "st"
      refine ⟨_, 2, hp, rfl, ?_⟩
      walk_at "st"
      have hp2 : (upd H a (.lst [.int p, .int q, .int (r + 1)])) a = some (.lst [.int p, .int q, .int (r + 1)]) := upd_same
      refine potItem hp2 (z := q) (by rfl) ?_
      walk_at "st"
      refine a_mulI ⟨.inl (.inl ⟨by omega, by omega⟩), ?_⟩
      walk_at "st"
      refine potItem hp2 (z := r + 1) (by rfl) ?_
      walk_at "st"
      refine a_mulI ⟨.inl (.inr ⟨by decide, by decide⟩), ?_⟩
      walk_at "st"
      refine a_mod ⟨by decide, ?_⟩
      walk_at "st"
      have b0 : 0 ≤ (q * 3935559000370003845 + (r + 1) * 2691343689449507681) % 2305843009213693951 := Int.emod_nonneg _ (by decide)
      have b1 : (q * 3935559000370003845 + (r + 1) * 2691343689449507681) % 2305843009213693951 < 2305843009213693951 := Int.emod_lt_of_pos _ (by decide)
      generalize (q * 3935559000370003845 + (r + 1) * 2691343689449507681) % 2305843009213693951 = one at b0 b1 ⊢
      refine a_mulI ⟨.inl (.inl ⟨by omega, by omega⟩), ?_⟩
      walk_at "st"
      refine potItem hp2 (z := r + 1) (by rfl) ?_
      refine a_mulI ⟨.inl (.inl ⟨by decide, by decide⟩), ?_⟩
      walk_at "st"
      refine a_mod ⟨by decide, ?_⟩
      walk_at "st"
      refine a_mulI ⟨.inl (.inr ⟨by decide, by decide⟩), ?_⟩
      walk_at "st"
      refine a_mod ⟨by decide, ?_⟩
      walk_at "st"
      refine a_div ⟨⟨by decide, by decide⟩, ?_⟩
      walk_at "st"
      refine a_mod ⟨n0, ?_⟩
      exact k _ _ (mv_pot hp p0 q0 q1) (Int.emod_nonneg _ (by omega)) (Int.emod_lt_of_pos _ n0)
/-- one of the items of a sequence, or one of the signs of a text -/
def spChoose (K : PySem.W.Frag) : Sp := fun vs H Q _ => ∃ a, Pot a H ∧
  ((∃ b xs, vs = [.ref a, .ref b] ∧ Beside a K H b xs ∧ 0 < xs.length ∧ xs.length < 1000000 ∧ ∀ H1 v, Mv a H H1 → v ∈ xs → Q v H1) ∨
    ∃ z : Str, vs = [.ref a, .str z] ∧ 0 < z.length ∧ z.length < 1000000 ∧ ∀ H1 c, Mv a H H1 → c ∈ z.cps.toList → Q (.str ⟨#[c]⟩) H1)
theorem nat_in {n : Nat} {r : Int} (h0 : 0 ≤ r) (h1 : r < (n : Nat)) : r.toNat < n := by omega
abbrev s_law_choose : Stmt := topS 21
theorem sc_law_choose : FnScope ["pot", "items"] ["pot", "items"] (defScope s_law_choose) := ⟨rfl, rfl, rfl, by decide +kernel, rfl, by decide +kernel, by decide +kernel⟩
theorem ok_choose {f fdip : Addr} {fd fddip : FuncData} (T : Txt mg) (D : Def K mg "_law_choose" s_law_choose ["pot", "items"] f fd) (D_law_dip : Def K mg "_law_dip" s_law_dip ["pot", "total"] fdip fddip) : FnOk P w K mg base CX0 2 f fd ["pot", "items"] (spChoose K) := by
  have G_law_dip : FnOk P w K mg base CX0 1 fdip fddip ["pot", "total"] spDip := ok_dip T D_law_dip
  refine D.F.ok sc_law_choose (fun vs H Q E h => ?_) (fun cdv A outer s H vs Q E hr h => ?_)
  · obtain ⟨a, _, ⟨b, xs, rfl, _⟩ | ⟨z, rfl, _⟩⟩ := h <;> rfl
  · refine ⟨_, (pss_one (ps_ret (pe_ix (Z.k_item (K := K)) (pv 1) (pe_call G_law_dip (hr.mono (by decide)) (by rfl) D_law_dip.g D_law_dip.F.kp D_law_dip.b .nil pass0 (pa_cons (pv 0) (pa_cons (pe_callB (Z.k_len (K := K)) (by rfl) T.len (by decide +kernel) (pa_cons (pv 1) pa_nil)) pa_nil))) (fun _ _ => rfl)))), ?_⟩
    obtain ⟨a, pot, ⟨b, xs, rfl, bs, n0, n1, k⟩ | ⟨z, rfl, n0, n1, k⟩⟩ := h
    · walk_at "st"
      refine .inl ⟨xs, bs.seq, ?_⟩
      walk_at "st"
      refine ⟨a, _, rfl, pot, by omega, by omega, fun H1 r m r0 r1 => ?_⟩
      have lt := nat_in r0 r1
      exact ⟨xs, xs[r.toNat], (bs.mv m).seq, atI_lt r0 (List.getElem?_eq_getElem lt), k H1 _ m (List.getElem_mem lt)⟩
    · have small : z.length ≤ sizeLine := Nat.le_trans (Nat.le_of_lt n1) (by decide)
      walk_at "st"
      refine ⟨small, ?_⟩
      walk_at "st"
      refine ⟨a, _, rfl, pot, by omega, by omega, fun H1 r m r0 r1 => ?_⟩
      have lt : r.toNat < z.cps.toList.length := by
        rw [Array.length_toList]
        exact nat_in r0 r1
      exact ⟨small, z.cps.toList[r.toNat], atI_lt r0 (List.getElem?_eq_getElem lt), k H1 _ m (List.getElem_mem lt)⟩
/-- all items, in some order -/
def spShuffled (K : PySem.W.Frag) : Sp := fun vs H Q _ => ∃ a y xs, vs = [.ref a, y] ∧ Pot a H ∧ ((∃ b, y = .ref b ∧ Beside a K H b xs) ∨ ∃ z : Str, y = .str z ∧ xs = signsV z) ∧ xs.length < 1000000 ∧
  ∀ H1 p ys, Mv a H H1 → H p = none → H1 p = some (.lst ys) → ys.Perm xs → Q (.ref p) H1
theorem perm_erase {α : Type} : ∀ {l : List α} {k : Nat} {x : α}, l[k]? = some x → (x :: l.eraseIdx k).Perm l
  | [], k, x, h => by simp at h
  | y :: l, 0, x, h => by
    have e : y = x := Option.some.inj h
    rw [e]
    exact List.Perm.refl _
  | y :: l, k + 1, x, h => by
    have ih := perm_erase (l := l) (k := k) (x := x) (by simpa using h)
    show (x :: y :: l.eraseIdx k).Perm (y :: l)
    exact (List.Perm.swap y x _).trans (ih.cons y)
theorem ix_of {r : Int} {n : Nat} (h0 : 0 ≤ r) (h1 : r < (n : Nat)) : seqIndex? r n = some r.toNat := by
  unfold seqIndex?
  simp [h0, h1, Int.not_lt.mpr h0]
abbrev s_law_shuffled : Stmt := topS 22
theorem sc_law_shuffled : FnScope ["pot", "items", "left", "turn"] ["pot", "items"] (defScope s_law_shuffled) := ⟨rfl, rfl, rfl, by decide +kernel, rfl, by decide +kernel, by decide +kernel⟩
theorem ok_shuffled {f fdip : Addr} {fd fddip : FuncData} (T : Txt mg) (D : Def K mg "_law_shuffled" s_law_shuffled ["pot", "items"] f fd) (D_law_dip : Def K mg "_law_dip" s_law_dip ["pot", "total"] fdip fddip) : FnOk P w K mg base CX0 2 f fd ["pot", "items"] (spShuffled K) := by
  have G_law_dip : FnOk P w K mg base CX0 1 fdip fddip ["pot", "total"] spDip := ok_dip T D_law_dip
  refine D.F.ok sc_law_shuffled (fun vs H Q E h => ?_) (fun cdv A outer s H vs Q E hr h => ?_)
  · obtain ⟨a, y, xs, rfl, _⟩ := h
    rfl
  · obtain ⟨a, y, xs, rfl, pot, src, few, k⟩ := h
    refine ⟨_, (pss_cons (ps_set (i := 2) sc_law_shuffled.nd rfl (by first | exact Or.inl rfl | exact Or.inr rfl) (pe_callTy (Z.k_list (K := K) rfl) (by rfl) T.list (by decide +kernel) (pa_cons (pv 1) pa_nil)))
 (pss_one (ps_ret (pe_lc (own := [("turn", 3)]) (by rfl) sc_law_shuffled.nd (pi_range1 (by rfl) T.range (pa_cons (pe_callB (Z.k_len (K := K)) (by rfl) T.len (by decide +kernel) (pa_cons (pv 1) pa_nil)) pa_nil)) (blkOk_by (own := [("turn", 3)]) (N := ["pot", "items", "left", "turn"]) (sc := defScope s_law_shuffled) (by decide +kernel))
   (fun _ _ _ _ _ => (pg_name (i := 3) sc_law_shuffled.nd rfl (by first | exact Or.inl rfl | exact Or.inr rfl))) (fun _ _ _ _ _ => pts_nil) (fun _ _ _ _ _ => (Z.k_bm (K := K) PySem.F.plainAttrs_list PySem.F.slot_list_pop PySem.F.type_list_pop mt_popAt (pv 2) (pa_cons (pe_call G_law_dip (hr.mono (by decide)) (by rfl) D_law_dip.g D_law_dip.F.kp D_law_dip.b .nil pass0 (pa_cons (pv 0) (pa_cons (pe_callB (Z.k_len (K := K)) (by rfl) T.len (by decide +kernel) (pa_cons (pv 2) pa_nil)) pa_nil))) pa_nil))))))), ?_⟩
    have listed : ∀ Q : VK, (∀ l, H l = none → Q (.ref l) (upd H l (.lst xs))) → rListZ K [y] H Q := by
      intro Q q
      rcases src with ⟨b, rfl, bs⟩ | ⟨z, rfl, rfl⟩
      · exact ⟨xs, bs.seq, q⟩
      · unfold signsV at few
        rw [List.length_map, Array.length_toList] at few
        exact ⟨Nat.le_trans (Nat.le_of_lt few) (by decide), q⟩
    have lens : ∀ (H1 : Hp) (Q : VK), Mv a H H1 → Q (.int (xs.length : Nat)) H1 → rLen K [y] H1 Q := by
      intro H1 Q m q
      rcases src with ⟨b, rfl, bs⟩ | ⟨z, rfl, rfl⟩
      · exact .inl ⟨xs, (bs.mv m).seq, q⟩
      · unfold signsV at few q
        rw [List.length_map, Array.length_toList] at few q
        exact ⟨Nat.le_trans (Nat.le_of_lt few) (by decide), q⟩
    walk_at "st"
    refine listed _ fun l nl => ?_
    have m1 : Mv a H (upd H l (.lst xs)) := (Mv.refl pot).new nl
    walk_at "st"
    refine lens _ _ m1 ?_
    walk_at "st"
    have la : l ≠ a := Mv.ne pot (Mv.refl pot) nl
    have un : ∀ L, upd H l (.lst xs) L = none → H L = none ∧ L ≠ l := by
      intro L e
      have ne : L ≠ l := by
        intro z
        rw [z, upd_same] at e
        cases e
      rw [upd_ne ne] at e
      exact ⟨e, ne⟩
    have mu : ∀ L o H2, upd H l (.lst xs) L = none → Mv a H H2 → Mv a H (upd H2 L o) := fun L o H2 e m => m.upd pot (un L e).1
    have iu : ∀ (L : Addr) (o : HO) (i : Nat) (acc : List V) (H2 : Hp), upd H l (.lst xs) L = none → Mv a H H2 → (∃ rest, H2 l = some (.lst rest) ∧ (acc ++ rest).Perm xs ∧ i + rest.length = xs.length) →
        (∃ rest, upd H2 L o l = some (.lst rest) ∧ (acc ++ rest).Perm xs ∧ i + rest.length = xs.length) := by
      rintro L o i acc H2 e m ⟨rest, h1, h2, h3⟩
      exact ⟨rest, by rw [upd_ne (un L e).2.symm]; exact h1, h2, h3⟩
    refine ⟨by omega, by omega, comp walkR (Mv a H) (fun i acc H2 => ∃ rest, H2 l = some (.lst rest) ∧ (acc ++ rest).Perm xs ∧ i + rest.length = xs.length) m1 mu iu ⟨xs, upd_same, List.Perm.refl _, Nat.zero_add _⟩ (fun _ _ _ _ _ => trivial) ?_ ?_⟩
    · rintro L i acc x H2 fresh hi _ len m at_ ⟨rest, hl, perm, many⟩
      have hi2 : i < xs.length := by omega
      refine turn1 rfl ?_
      walk_at "st"
      refine ⟨.inl ⟨rfl, _, SqL.of hl⟩, ?_⟩
      walk_at "st"
      refine .inl ⟨rest, .inl (SqL.of hl), ?_⟩
      walk_at "st"
      refine ⟨a, _, rfl, m.pot, by omega, by omega, fun H3 r m3 r0 r1 => ?_⟩
      have lt := nat_in r0 r1
      have hl3 : H3 l = some (.lst rest) := m3.at la hl
      have la3 : H3 L = some (.lst acc) := m3.at (Mv.ne pot (Mv.refl pot) (un L fresh).1) at_
      walk_at "st"
      refine ⟨l, rest, r, r.toNat, rest[r.toNat], rfl, rfl, hl3, by omega, by omega, ix_of r0 r1, List.getElem?_eq_getElem lt, ?_⟩
      refine put (acc := acc) fresh mu iu ?_ (by omega) len ((m.trans m3).upd pot nl) ⟨rest.eraseIdx r.toNat, upd_same, ?_, ?_⟩
      · rw [upd_ne (un L fresh).2]
        exact la3
      · rw [List.append_assoc]
        exact ((perm_erase (List.getElem?_eq_getElem lt)).append_left acc).trans perm
      · rw [List.length_eraseIdx_of_lt lt]
        omega
    · rintro L acc H2 fresh len m at_ ⟨rest, hl, perm, many⟩
      have e : rest = [] := List.eq_nil_of_length_eq_zero (by omega)
      rw [e, List.append_nil] at perm
      exact k H2 L acc m (un L fresh).1 at_ perm
end
end Z
namespace Z
open PySem PySem.Spec PyProof.Rows L2 G
section
variable {P : Program} {w : World} {K : PySem.W.Frag} {mg : Str → Option Value} {base : Heap}
/-- a drawn name -/
def spName : Sp := fun vs H Q _ => ∃ a, vs = [.ref a] ∧ Pot a H ∧ ∀ H1 z, Mv a H H1 → nameB z = true → Q (.str z) H1
abbrev oneOf (zs : List Str) : List V := zs.map V.str
abbrev s_law_name : Stmt := topS 23
theorem sc_law_name : FnScope ["pot", "letters", "word", "found", "turn"] ["pot"] (defScope s_law_name) := ⟨rfl, rfl, rfl, by decide +kernel, rfl, by decide +kernel, by decide +kernel⟩
theorem ok_name {f fdip fch : Addr} {fd fddip fdch : FuncData} (T : Txt mg) (D : Def K mg "_law_name" s_law_name ["pot"] f fd) (D_law_dip : Def K mg "_law_dip" s_law_dip ["pot", "total"] fdip fddip) (D_law_choose : Def K mg "_law_choose" s_law_choose ["pot", "items"] fch fdch) : FnOk P w K mg base CX0 3 f fd ["pot"] spName := by
  have G_law_dip : FnOk P w K mg base CX0 1 fdip fddip ["pot", "total"] spDip := ok_dip T D_law_dip
  have G_law_choose : FnOk P w K mg base CX0 2 fch fdch ["pot", "items"] (spChoose K) := ok_choose T D_law_choose D_law_dip
  refine D.F.ok sc_law_name (fun vs H Q E h => ?_) (fun cdv A outer s H vs Q E hr h => ?_)
  · obtain ⟨a, rfl, _⟩ := h
    rfl
  · obtain ⟨a, rfl, pot, k⟩ := h
    have hu := (hr.units)
    refine ⟨_, (pss_cons (ps_set (i := 1) sc_law_name.nd rfl (by first | exact Or.inl rfl | exact Or.inr rfl) (pe_call G_law_choose (hr.mono (by decide)) (by rfl) D_law_choose.g D_law_choose.F.kp D_law_choose.b .nil pass0 (pa_cons (pv 0) (pa_cons (pe_lst (pa_cons pe_str (pa_cons pe_str (pa_cons pe_str (pa_cons pe_str pa_nil))))) pa_nil))))
 (pss_cons (ps_set (i := 2) sc_law_name.nd rfl (by first | exact Or.inl rfl | exact Or.inr rfl) (Z.k_join (K := K) pe_str (pe_lc (own := [("turn", 4)]) (by rfl) sc_law_name.nd (pi_range1 (by rfl) T.range (pa_cons (pe_op (Z.k_add (K := K)) pe_int (pe_call G_law_dip (hr.mono (by decide)) (by rfl) D_law_dip.g D_law_dip.F.kp D_law_dip.b .nil pass0 (pa_cons (pv 0) (pa_cons (pe_call G_law_choose (hr.mono (by decide)) (by rfl) D_law_choose.g D_law_choose.F.kp D_law_choose.b .nil pass0 (pa_cons (pv 0) (pa_cons (pe_lst (pa_cons pe_int (pa_cons pe_int (pa_cons pe_int pa_nil)))) pa_nil))) pa_nil)))) pa_nil)) (blkOk_by (own := [("turn", 4)]) (N := ["pot", "letters", "word", "found", "turn"]) (sc := defScope s_law_name) (by decide +kernel))
   (fun _ _ _ _ _ => (pg_name (i := 4) sc_law_name.nd rfl (by first | exact Or.inl rfl | exact Or.inr rfl))) (fun _ _ _ _ _ => pts_nil) (fun _ _ _ _ _ => (pe_call G_law_choose (hr.mono (by decide)) (by rfl) D_law_choose.g D_law_choose.F.kp D_law_choose.b .nil pass0 (pa_cons (pv 0) (pa_cons (pv 1) pa_nil)))))))
 (pss_cons (ps_set (i := 3) sc_law_name.nd rfl (by first | exact Or.inl rfl | exact Or.inr rfl) (pe_call G_law_choose (hr.mono (by decide)) (by rfl) D_law_choose.g D_law_choose.F.kp D_law_choose.b .nil pass0 (pa_cons (pv 0) (pa_cons (pe_lst (pa_cons (pv 2) (pa_cons (pv 2) (pa_cons (pv 2) (pa_cons pe_str (pa_cons pe_str (pa_cons pe_str (pa_cons pe_str (pa_cons pe_str (pa_cons pe_str (pa_cons pe_str (pa_cons pe_str (pa_cons pe_str pa_nil))))))))))))) pa_nil))))
 (pss_one (ps_ret (pe_ifExp (pt_cmpR (Z.k_ne (K := K) hu) (pv 3) pe_str (nomark _)) (pv 3) pe_str)))))), ?_⟩
    walk_at "st"
    refine ⟨by show 4 ≤ sizeLine; decide, fun p np => ?_⟩
    have m1 : Mv a H (upd H p (.lst (oneOf ["xyz", "abcdefghijklmnopqrstuvwxyz", "end", "st"]))) := (Mv.refl pot).new np
    walk_at "st"
    refine ⟨a, m1.pot, .inl ⟨p, oneOf ["xyz", "abcdefghijklmnopqrstuvwxyz", "end", "st"], rfl, Beside.lst (Mv.ne pot (Mv.refl pot) np) upd_same, by decide, by decide, fun H1 v mc hv => ?_⟩⟩
    obtain ⟨lt, rfl, hlt⟩ := one_of (P := fun z => wordB 26 z = true) (all_of (by decide +kernel)) hv
    have m2 := m1.trans mc
    walk_at "st"
    refine ⟨by show 3 ≤ sizeLine; decide, fun p2 np2 => ?_⟩
    have m3 : Mv a H _ := m2.new (o := .lst [V.int 1, .int 3, .int 8]) np2
    walk_at "st"
    refine ⟨a, m3.pot, .inl ⟨p2, [V.int 1, .int 3, .int 8], rfl, Beside.lst (Mv.ne pot m2 np2) upd_same, by decide, by decide, fun H2 v2 mc2 hv2 => ?_⟩⟩
    obtain ⟨n, rfl, n0, n1⟩ : ∃ n : Int, v2 = .int n ∧ 0 < n ∧ n ≤ 8 := by
      simp only [List.mem_cons, List.not_mem_nil, or_false] at hv2
      rcases hv2 with e | e | e <;> exact ⟨_, e, by decide, by decide⟩
    have m4 := m3.trans mc2
    walk_at "st"
    refine ⟨a, n, rfl, m4.pot, n0, by omega, fun H3 r mc3 r0 r1 => ?_⟩
    have m5 := m4.trans mc3
    walk_at "st"
    have mu : ∀ L o H6, H3 L = none → Mv a H H6 → Mv a H (upd H6 L o) := fun L o H6 e m => m.upd pot (m5.free pot e)
    have iu : ∀ (L : Addr) (o : HO) (i : Nat) (acc : List V) (H6 : Hp), H3 L = none → Mv a H H6 → (∃ cs : List Nat, acc = cs.map (fun c => V.str ⟨#[c]⟩) ∧ (∀ c ∈ cs, letB c = true) ∧ cs.length = i) →
        (∃ cs : List Nat, acc = cs.map (fun c => V.str ⟨#[c]⟩) ∧ (∀ c ∈ cs, letB c = true) ∧ cs.length = i) := fun _ _ _ _ _ _ _ h => h
    refine ⟨by omega, by omega, comp walkR (Mv a H) (fun i acc H6 => ∃ cs : List Nat, acc = cs.map (fun c => V.str ⟨#[c]⟩) ∧ (∀ c ∈ cs, letB c = true) ∧ cs.length = i) m5 mu iu ⟨[], rfl, by simp, rfl⟩ (fun _ _ _ _ _ => trivial) ?_ ?_⟩
    · rintro L i acc x H6 fresh hi _ len m at_ ⟨cs, rfl, hcs, many⟩
      have hL : H L = none := m5.free pot fresh
      refine turn1 rfl ?_
      walk_at "st"
      refine ⟨a, m.pot, .inr ⟨lt, rfl, (wordB_len hlt).1, by have := (wordB_len hlt).2.1; omega, fun H7 c mc7 hc => ?_⟩⟩
      refine put (acc := cs.map fun c => V.str ⟨#[c]⟩) fresh mu iu (mc7.at (Mv.ne pot (Mv.refl pot) hL) at_) (by omega) len (m.trans mc7) ⟨cs ++ [c], ?_, ?_, ?_⟩
      · rw [List.map_append]
        rfl
      · intro d hd
        rcases List.mem_append.mp hd with hd | hd
        · exact hcs d hd
        · rw [List.mem_singleton.mp hd]
          exact (wordB_len hlt).2.2 c hc
      · rw [List.length_append, many]
        rfl
    · rintro L acc H6 fresh len m at_ ⟨cs, rfl, hcs, many⟩
      refine join_of (SqL.of at_) (by omega) fun word hw => ?_
      have hword : wordB 8 word = true := wordB_of hw (by omega) (by omega) hcs
      walk_at "st"
      refine ⟨by show 12 ≤ sizeLine; decide, fun p3 np3 => ?_⟩
      have m7 := m.new (o := .lst (oneOf [word, word, word, "put", "take", "each", "a", "ends", "x", "y", "choose", "done"])) np3
      walk_at "st"
      refine ⟨a, m7.pot, .inl ⟨p3, oneOf [word, word, word, "put", "take", "each", "a", "ends", "x", "y", "choose", "done"], rfl, Beside.lst (Mv.ne pot m np3) upd_same, by show 0 < 12; decide, by show 12 < 1000000; decide, fun H8 v mc8 hv => ?_⟩⟩
      obtain ⟨f, rfl, hf⟩ := one_of (P := fun z => wordB 8 z = true) (by
        intro z hz
        rcases List.mem_cons.mp hz with e | hz
        · rw [e]; exact hword
        rcases List.mem_cons.mp hz with e | hz
        · rw [e]; exact hword
        rcases List.mem_cons.mp hz with e | hz
        · rw [e]; exact hword
        exact all_of (P := wordB 8) (zs := ["put", "take", "each", "a", "ends", "x", "y", "choose", "done"]) (by decide +kernel) z hz) hv
      have m8 := m7.trans mc8
      walk_at "st"
      refine ite2 (fun c => ?_) (fun c => ?_)
      · walk_at "st"
        refine k _ _ m8 ?_
        unfold nameB
        rw [hf, c]
        rfl
      · walk_at "st"
        exact k _ _ m8 (by decide +kernel)
theorem inV_str (z : Str) (zs : List Str) : inV (.str z) (zs.map V.str) = decide (z ∈ zs) := by
  unfold inV
  rw [List.any_map]
  rw [Bool.eq_iff_iff, List.any_eq_true, decide_eq_true_eq]
  constructor
  · rintro ⟨y, hy, e⟩
    have e2 : (y == z) = true := e
    rw [← beq_iff_eq.mp e2]
    exact hy
  · intro h
    refine ⟨z, h, ?_⟩
    show (z == z) = true
    exact beq_self_eq_true z
theorem flat_strs (zs : List Str) : (zs.map V.str).all flatV = true := by
  rw [List.all_map]
  exact List.all_eq_true.mpr fun _ _ => rfl
theorem few_of {α : Type} [DecidableEq α] : ∀ {l m : List α}, l.Nodup → (∀ x ∈ l, x ∈ m) → l.length ≤ m.length
  | [], _, _, _ => Nat.zero_le _
  | x :: l, m, nd, h => by
    obtain ⟨nx, nd⟩ := List.nodup_cons.mp nd
    have hx := h x List.mem_cons_self
    have sub : ∀ y ∈ l, y ∈ m.erase x := by
      intro y hy
      have ne : y ≠ x := fun e => nx (by rw [← e]; exact hy)
      exact (List.mem_erase_of_ne ne).mpr (h y (List.mem_cons_of_mem _ hy))
    have ih := few_of nd sub
    rw [List.length_erase_of_mem hx] at ih
    have pos : 0 < m.length := List.length_pos_of_mem hx
    rw [List.length_cons]
    omega
theorem same_new {H H1 : Hp} {p : Addr} {o : HO} (s : Same H H1) (h : H1 p = none) : Same H (upd H1 p o) := fun b u e => by
  have e1 := s b u e
  rw [upd_ne (ne_of_none e1 h)]
  exact e1
theorem same_upd {H H1 : Hp} {p : Addr} {o : HO} (s : Same H H1) (h : H p = none) : Same H (upd H1 p o) := fun b u e => by
  rw [upd_ne (ne_of_none e h)]
  exact s b u e
/-- the six names that are free where others are used -/
abbrev six : List Str := ["qa", "qb", "qc", "qd", "qe", "qf"]
/-- a name that is none of at most five -/
def spFree (K : PySem.W.Frag) : Sp := fun vs H Q _ => ∃ b zs, vs = [.ref b] ∧ SqL K H b (oneOf zs) ∧ zs.length ≤ 5 ∧ ∀ H1 z, Same H H1 → z ∉ zs → nameB z = true → Q (.str z) H1
abbrev s_law_free : Stmt := topS 24
theorem sc_law_free : FnScope ["names", "name"] ["names"] (defScope s_law_free) := ⟨rfl, rfl, rfl, by decide +kernel, rfl, by decide +kernel, by decide +kernel⟩
theorem ok_free {f : Addr} {fd : FuncData} (D : Def K mg "_law_free" s_law_free ["names"] f fd) : FnOk P w K mg base CX0 1 f fd ["names"] (spFree K) := by
  refine D.F.ok sc_law_free (fun vs H Q E h => ?_) (fun cdv A outer s H vs Q E hr h => ?_)
  · obtain ⟨b, zs, rfl, _⟩ := h
    rfl
  · obtain ⟨b, zs, rfl, hb, few, k⟩ := h
    refine ⟨_, (pss_one (ps_ret (pe_ix (Z.k_item (K := K)) (pe_lc (own := [("name", 1)]) (by rfl) sc_law_free.nd (pi_tup (pe_tup (pa_cons pe_str (pa_cons pe_str (pa_cons pe_str (pa_cons pe_str (pa_cons pe_str (pa_cons pe_str pa_nil)))))))) (blkOk_by (own := [("name", 1)]) (N := ["names", "name"]) (sc := defScope s_law_free) (by decide +kernel))
   (fun _ _ _ _ _ => (pg_name (i := 1) sc_law_free.nd rfl (by first | exact Or.inl rfl | exact Or.inr rfl))) (fun _ _ _ _ _ => pts_one (pt_cmpR (Z.k_notIn (K := K)) (pv 1) (pv 0) (by rfl))) (fun _ _ _ _ _ => (pv 1))) pe_int (fun _ _ => rfl)))), ?_⟩
    walk_at "st"
    refine ⟨by show 6 ≤ sizeLine; decide, fun p np => ?_⟩
    have s1 : Same H (upd H p (.tup (oneOf six))) := same_new (Same.refl H) np
    walk_at "st"
    have un : ∀ L, upd H p (.tup (oneOf six)) L = none → H L = none := fun L e => s1.free e
    refine ⟨⟨_, SqT.of upd_same⟩, comp (walkT (xs := oneOf six)) (fun H2 => Same H H2 ∧ H2 p = some (.tup (oneOf six))) (fun i acc H2 => acc = oneOf ((six.take i).filter fun z => decide (z ∉ zs))) ⟨s1, upd_same⟩ ?_ (fun _ _ _ _ _ _ _ h => h) rfl (fun _ _ H2 m _ => SqT.of m.2) ?_ ?_⟩
    · rintro L o H2 e ⟨m, hp⟩
      refine ⟨same_upd m (un L e), ?_⟩
      rw [upd_ne (ne_of_none upd_same e)]
      exact hp
    · rintro L i acc x H2 fresh hi hx len ⟨m, hp⟩ at_ rfl
      have hi6 : i < six.length := hi
      have ex : x = .str six[i] := by
        rw [List.getElem?_map, List.getElem?_eq_getElem hi6] at hx
        exact (Option.some.inj hx).symm
      rw [ex]
      refine turnIf rfl ?_
      have tk : six.take (i + 1) = six.take i ++ [six[i]] := by
        rw [List.take_add_one, List.getElem?_eq_getElem hi6]
        rfl
      walk_at "st"
      refine ⟨b, oneOf zs, rfl, .inl (m.seq hb), rfl, flat_strs zs, ?_⟩
      rw [inV_str]
      walk_at "st"
      by_cases hz : six[i] ∈ zs
      · rw [decide_eq_true hz]
        refine iteF (skip at_ len ⟨m, hp⟩ ?_)
        rw [tk, List.filter_append]
        simp [hz]
      · rw [decide_eq_false hz]
        refine iteT ?_
        walk_at "st"
        refine put fresh ?_ (fun _ _ _ _ _ _ _ h => h) at_ (Nat.lt_trans hi6 (by decide)) len ⟨m, hp⟩ ?_
        · rintro L o H2 e ⟨m, hp⟩
          refine ⟨same_upd m (un L e), ?_⟩
          rw [upd_ne (ne_of_none upd_same e)]
          exact hp
        · rw [tk, List.filter_append]
          simp [hz]
    · rintro L acc H2 fresh len ⟨m, hp⟩ at_ e
      have full : six.take (oneOf six).length = six := rfl
      rw [full] at e
      walk_at "st"
      cases hf : six.filter (fun z => decide (z ∉ zs)) with
      | nil =>
        exfalso
        have all : ∀ z ∈ six, z ∈ zs := by
          intro z hz
          refine Classical.byContradiction fun n => ?_
          have : z ∈ six.filter (fun z => decide (z ∉ zs)) := List.mem_filter.mpr ⟨hz, decide_eq_true n⟩
          rw [hf] at this
          cases this
        have := few_of (by decide +kernel) all
        have l6 : six.length = 6 := rfl
        omega
      | cons z r =>
        rw [hf] at e
        rw [e] at at_
        have hz : z ∈ six.filter (fun z => decide (z ∉ zs)) := by
          rw [hf]
          exact List.mem_cons_self
        obtain ⟨h1, h2⟩ := List.mem_filter.mp hz
        exact ⟨_, _, .inl (SqL.of at_), at_0, k H2 z m (of_decide_eq_true h2) (all_of (P := nameB) (zs := six) (by decide +kernel) z h1)⟩
/-- so many different drawn names, as a list -/
def spNames : Sp := fun vs H Q _ => ∃ a n, vs = [.ref a, .int n] ∧ Pot a H ∧ 0 ≤ n ∧ n ≤ 6 ∧
  ∀ H1 p zs, Mv a H H1 → H p = none → H1 p = some (.lst (oneOf zs)) → (zs.length : Int) = n → zs.Nodup → (∀ z ∈ zs, nameB z = true) → Q (.ref p) H1
abbrev s_law_names : Stmt := topS 25
theorem sc_law_names : FnScope ["pot", "many", "found", "turn", "name"] ["pot", "many"] (defScope s_law_names) := ⟨rfl, rfl, rfl, by decide +kernel, rfl, by decide +kernel, by decide +kernel⟩
theorem ok_names {f fdip fch fnm ffr : Addr} {fd fddip fdch fdnm fdfr : FuncData} (T : Txt mg) (D : Def K mg "_law_names" s_law_names ["pot", "many"] f fd) (D_law_dip : Def K mg "_law_dip" s_law_dip ["pot", "total"] fdip fddip) (D_law_choose : Def K mg "_law_choose" s_law_choose ["pot", "items"] fch fdch)
    (D_law_name : Def K mg "_law_name" s_law_name ["pot"] fnm fdnm) (D_law_free : Def K mg "_law_free" s_law_free ["names"] ffr fdfr) : FnOk P w K mg base CX0 4 f fd ["pot", "many"] spNames := by
  have G_law_name : FnOk P w K mg base CX0 3 fnm fdnm ["pot"] spName := ok_name T D_law_name D_law_dip D_law_choose
  have G_law_free : FnOk P w K mg base CX0 1 ffr fdfr ["names"] (spFree K) := ok_free D_law_free
  refine D.F.ok sc_law_names (fun vs H Q E h => ?_) (fun cdv A outer s H vs Q E hr h => ?_)
  · obtain ⟨a, n, rfl, _⟩ := h
    rfl
  · obtain ⟨a, n, rfl, pot, n0, n6, k⟩ := h
    refine ⟨_, (pss_cons (ps_set (i := 2) sc_law_names.nd rfl (by first | exact Or.inl rfl | exact Or.inr rfl) (pe_lst pa_nil))
 (pss_cons (ps_for PassesOwn.never rfl (pi_range1 (by rfl) T.range (pa_cons (pv 1) pa_nil)) (pg_name (i := 3) sc_law_names.nd rfl (by first | exact Or.inl rfl | exact Or.inr rfl))
  (pss_cons (ps_set (i := 4) sc_law_names.nd rfl (by first | exact Or.inl rfl | exact Or.inr rfl) (pe_call G_law_name (hr.mono (by decide)) (by rfl) D_law_name.g D_law_name.F.kp D_law_name.b .nil pass0 (pa_cons (pv 0) pa_nil)))
 (pss_one (ps_expr (Z.k_bm (K := K) PySem.F.plainAttrs_list PySem.F.slot_list_append PySem.F.type_list_append mt_append (pv 2) (pa_cons (pe_ifExp (pt_cmpR (Z.k_notIn (K := K)) (pv 4) (pv 2) (by rfl)) (pv 4) (pe_call G_law_free (hr.mono (by decide)) (by rfl) D_law_free.g D_law_free.F.kp D_law_free.b .nil pass0 (pa_cons (pv 2) pa_nil))) pa_nil))))))
 (pss_one (ps_ret (pv 2))))), ?_⟩
    walk_at "st"
    refine ⟨Nat.zero_le _, fun l nl => ?_⟩
    have m0 : Mv a H (upd H l (.lst [])) := (Mv.refl pot).new nl
    have la : l ≠ a := Mv.ne pot (Mv.refl pot) nl
    walk_at "st"
    refine ⟨by omega, by omega, loop walkR (fun i σ2 H2 => ∃ zs t3 t4, σ2 = [some (.ref a), some (.int n), some (.ref l), t3, t4] ∧ Mv a H H2 ∧ H2 l = some (.lst (oneOf zs)) ∧ zs.length = i ∧ zs.Nodup ∧ ∀ z ∈ zs, nameB z = true)
      ⟨[], none, none, rfl, m0, upd_same, rfl, List.nodup_nil, fun z hz => nomatch hz⟩ (fun _ _ _ _ => trivial) ?_ ?_⟩
    · rintro i x σ2 H2 hi rfl ⟨zs, t3, t4, rfl, m, hl, many, nd, hz⟩
      walk_at "st"
      refine ⟨a, rfl, m.pot, fun H3 nm mc hnm => ?_⟩
      have m3 := m.trans mc
      have hl3 := mc.at la hl
      walk_at "st"
      refine ⟨.inl ⟨rfl, _, SqL.of hl3⟩, ?_⟩
      have app : ∀ (H4 : Hp) (z : Str), Same H3 H4 → z ∉ zs → nameB z = true → rAppend (.ref l) [.str z] H4 (fun _ H5 => ∃ ws t3 t4, [some (V.ref a), some (.int n), some (.ref l), some (.int (0 + (i : Int))), some (.str nm)] = [some (.ref a), some (.int n), some (.ref l), t3, t4] ∧ Mv a H H5 ∧ H5 l = some (.lst (oneOf ws)) ∧ ws.length = i + 1 ∧ ws.Nodup ∧ ∀ z ∈ ws, nameB z = true) := by
        intro H4 z s4 nz hn
        have m4 : Mv a H H4 := ⟨fun b o e => by
          obtain ⟨ne, e3⟩ := hid_some (m3.same b o e)
          rw [hid_ne ne]
          exact s4 b o e3, by
          obtain ⟨p, q, r, e, rest⟩ := m3.pot
          exact ⟨p, q, r, s4 _ _ e, rest⟩⟩
        refine ⟨l, oneOf zs, .str z, rfl, rfl, s4 _ _ hl3, ?_, zs ++ [z], _, _, rfl, m4.upd pot nl, ?_, ?_, ?_, ?_⟩
        · rw [List.length_map, many]
          exact Nat.lt_trans (show i < 1000000 by omega) (by decide)
        · rw [upd_same]
          show some (HO.lst (oneOf zs ++ [V.str z])) = some (HO.lst (oneOf (zs ++ [z])))
          rw [show oneOf (zs ++ [z]) = oneOf zs ++ [V.str z] from List.map_append]
        · rw [List.length_append, many]
          rfl
        · refine List.nodup_append.mpr ⟨nd, by simp, ?_⟩
          intro x hx y hy e
          rw [List.mem_singleton.mp hy] at e
          exact nz (by rw [← e]; exact hx)
        · intro y hy
          rcases List.mem_append.mp hy with hy | hy
          · exact hz y hy
          · rw [List.mem_singleton.mp hy]
            exact hn
      walk_at "st"
      refine ⟨l, oneOf zs, rfl, .inl (SqL.of hl3), rfl, flat_strs zs, ?_⟩
      rw [inV_str]
      walk_at "st"
      by_cases hin : nm ∈ zs
      · rw [decide_eq_true hin]
        refine iteF ?_
        walk_at "st"
        refine ⟨l, zs, rfl, SqL.of hl3, by omega, fun H4 z s4 nz hn => ?_⟩
        walk_at "st"
        exact app H4 z s4 nz hn
      · rw [decide_eq_false hin]
        refine iteT ?_
        walk_at "st"
        exact app H3 nm (Same.refl _) hin hnm
    · rintro σ2 H2 ⟨zs, t3, t4, rfl, m, hl, many, nd, hz⟩
      walk_at "st"
      exact k H2 l zs m nl hl (by omega) nd hz
/-- drawn signs -/
def spSigns : Sp := fun vs H Q _ => ∃ a, vs = [.ref a] ∧ Pot a H ∧ ∀ H1 z, Mv a H H1 → signsB z = true → Q (.str z) H1
def lettersB (z : Str) : Bool := wordB 26 z && decide z.cps.toList.Nodup
abbrev s_law_signs : Stmt := topS 26
theorem sc_law_signs : FnScope ["pot", "letters"] ["pot"] (defScope s_law_signs) := ⟨rfl, rfl, rfl, by decide +kernel, rfl, by decide +kernel, by decide +kernel⟩
theorem ok_signs {f fdip fch fsh : Addr} {fd fddip fdch fdsh : FuncData} (T : Txt mg) (D : Def K mg "_law_signs" s_law_signs ["pot"] f fd) (D_law_dip : Def K mg "_law_dip" s_law_dip ["pot", "total"] fdip fddip) (D_law_choose : Def K mg "_law_choose" s_law_choose ["pot", "items"] fch fdch)
    (D_law_shuffled : Def K mg "_law_shuffled" s_law_shuffled ["pot", "items"] fsh fdsh) : FnOk P w K mg base CX0 3 f fd ["pot"] spSigns := by
  have G_law_dip : FnOk P w K mg base CX0 1 fdip fddip ["pot", "total"] spDip := ok_dip T D_law_dip
  have G_law_choose : FnOk P w K mg base CX0 2 fch fdch ["pot", "items"] (spChoose K) := ok_choose T D_law_choose D_law_dip
  have G_law_shuffled : FnOk P w K mg base CX0 2 fsh fdsh ["pot", "items"] (spShuffled K) := ok_shuffled T D_law_shuffled D_law_dip
  refine D.F.ok sc_law_signs (fun vs H Q E h => ?_) (fun cdv A outer s H vs Q E hr h => ?_)
  · obtain ⟨a, rfl, _⟩ := h
    rfl
  · obtain ⟨a, rfl, pot, k⟩ := h
    refine ⟨_, (pss_cons (ps_set (i := 1) sc_law_signs.nd rfl (by first | exact Or.inl rfl | exact Or.inr rfl) (pe_call G_law_choose (hr.mono (by decide)) (by rfl) D_law_choose.g D_law_choose.F.kp D_law_choose.b .nil pass0 (pa_cons (pv 0) (pa_cons (pe_lst (pa_cons pe_str (pa_cons pe_str (pa_cons pe_str (pa_cons pe_str (pa_cons pe_str (pa_cons pe_str pa_nil))))))) pa_nil))))
 (pss_one (ps_ret (Z.k_join (K := K) pe_str (pe_callB (Z.k_sortedS (K := K)) (by rfl) T.sorted (by decide +kernel) (pa_cons (pe_slice (Z.k_cut (K := K)) (pe_call G_law_shuffled (hr.mono (by decide)) (by rfl) D_law_shuffled.g D_law_shuffled.F.kp D_law_shuffled.b .nil pass0 (pa_cons (pv 0) (pa_cons (pv 1) pa_nil))) po_none (po_some (pe_op (Z.k_add (K := K)) pe_int (pe_call G_law_dip (hr.mono (by decide)) (by rfl) D_law_dip.g D_law_dip.F.kp D_law_dip.b .nil pass0 (pa_cons (pv 0) (pa_cons pe_int pa_nil)))))) pa_nil)))))), ?_⟩
    walk_at "st"
    refine ⟨by show 6 ≤ sizeLine; decide, fun p np => ?_⟩
    have m1 : Mv a H _ := (Mv.refl pot).new (o := .lst (oneOf ["ab", "abc", "abcd", "aez", "abcdefghijklmnopqrstuvwxyz", "k"])) np
    walk_at "st"
    refine ⟨a, m1.pot, .inl ⟨p, oneOf ["ab", "abc", "abcd", "aez", "abcdefghijklmnopqrstuvwxyz", "k"], rfl, Beside.lst (Mv.ne pot (Mv.refl pot) np) upd_same, by decide, by decide, fun H1 v mc hv => ?_⟩⟩
    obtain ⟨lt, rfl, hlt⟩ := one_of (P := fun z => lettersB z = true) (all_of (by decide +kernel)) hv
    unfold lettersB at hlt
    rw [Bool.and_eq_true, decide_eq_true_eq] at hlt
    obtain ⟨hw, hnd⟩ := hlt
    obtain ⟨l0, l26, hlet⟩ := wordB_len hw
    have m2 := m1.trans mc
    walk_at "st"
    refine ⟨a, .str lt, signsV lt, rfl, m2.pot, .inr ⟨lt, rfl, rfl⟩, ?_, fun H2 p2 ys ms np2 hp2 perm => ?_⟩
    · unfold signsV
      rw [List.length_map, Array.length_toList]
      exact Nat.lt_of_le_of_lt l26 (by decide)
    obtain ⟨cs, pc, rfl⟩ := perm_map_inv (g := fun v => match v with | .str z => z.cps.getD 0 0 | _ => 0) (fun _ => rfl) perm
    have m3 := m2.trans ms
    have hp2f : H p2 = none := m2.free pot np2
    walk_at "st"
    refine ⟨a, 4, rfl, m3.pot, by decide, by decide, fun H3 r md r0 r1 => ?_⟩
    have m4 := m3.trans md
    have hp3 : H3 p2 = _ := md.at (Mv.ne pot (Mv.refl pot) hp2f) hp2
    walk_at "st"
    refine .inl ⟨p2, _, rfl, SqL.of hp3, fun p4 np4 => ?_⟩
    have m5 := m4.new (o := .lst (cutV (cs.map fun c => V.str ⟨#[c]⟩) none (some (1 + r)))) np4
    rw [cut_take _ (by omega), ← List.map_take] at m5 ⊢
    walk_at "st"
    have sub : (cs.take (1 + r).toNat).Sublist cs := List.take_sublist _ _
    have hlen : 0 < (cs.take (1 + r).toNat).length ∧ (cs.take (1 + r).toNat).length ≤ 4 := by
      rw [List.length_take]
      have : cs.length = lt.length := by
        rw [pc.length_eq, Array.length_toList]
        rfl
      omega
    refine ⟨(cs.take (1 + r).toNat).map fun c => (⟨#[c]⟩ : Str), ?_, ?_, fun ys p5 py sorted np5 => ?_⟩
    · rw [List.map_map]
      exact SqL.of upd_same
    · rw [List.length_map]
      omega
    obtain ⟨ds, pd, rfl⟩ := perm_map_inv (g := fun z : Str => z.cps.getD 0 0) (fun _ => rfl) py
    have dl : ds.length = (cs.take (1 + r).toNat).length := pd.length_eq
    walk_at "st"
    refine join_of (cs := ds) (SqL.of ?_) (by omega) fun z hz => ?_
    · rw [upd_same, List.map_map]
      rfl
    refine k _ _ (m5.new np5) ?_
    have nd : ds.Nodup := pd.nodup_iff.mpr ((pc.nodup_iff.mpr hnd).sublist sub)
    unfold signsB
    rw [wordB_of hz (by omega) (by omega) (fun c hc => hlet c (pc.mem_iff.mp (sub.subset (pd.mem_iff.mp hc)))), hz, up_of ds sorted nd]
    rfl
end
end Z
namespace Z
open PySem PySem.Spec PyProof.Rows L2 G
section
variable {P : Program} {w : World} {K : PySem.W.Frag} {mg : Str → Option Value} {base : Heap}
/-- drawn sources and sinks -/
def spParts (K : PySem.W.Frag) : Sp := fun vs H Q _ => ∃ a n, vs = [.ref a, .int n] ∧ Pot a H ∧ 1 ≤ n ∧ n ≤ 3 ∧
  ∀ H1 p t1 t2 ps qs, Mv a H H1 → H p = none → H1 p = some (.lst [.ref t1, .ref t2]) → Dz K (hid a H1) (.ref t1) (.tuple (ps.map prD)) → Dz K (hid a H1) (.ref t2) (.tuple (qs.map prD)) → Parts n ps qs → Q (.ref p) H1
theorem same_hidden {L : Addr} {H H1 : Hp} (s : Same H H1) : Same (hid L H) (hid L H1) := fun b o e => by
  obtain ⟨n, e⟩ := hid_some e
  rw [hid_ne n]
  exact s b o e
theorem hid_upd {L : Addr} {H : Hp} {o : HO} : hid L (upd H L o) = hid L H := by
  funext b
  by_cases e : b = L
  · rw [show hid L (upd H L o) b = none from if_pos e, show hid L H b = none from if_pos e]
  · rw [hid_ne e, hid_ne e, upd_ne e]
theorem hid_comm {L a : Addr} {H : Hp} : hid L (hid a H) = hid a (hid L H) := by
  funext b
  unfold hid
  by_cases e1 : b = L <;> by_cases e2 : b = a <;> simp [e1, e2]
theorem zip_next {zs ss : List Str} {i : Nat} {x y : Str} (hx : zs[i]? = some x) (hs : ss.length = i) : (zs.take (i + 1)).zip (ss ++ [y]) = (zs.take i).zip ss ++ [(x, y)] := by
  have hi : i < zs.length := (List.getElem?_eq_some_iff.mp hx).1
  rw [List.take_add_one, hx]
  show List.zip (zs.take i ++ [x]) (ss ++ [y]) = _
  rw [List.zip_append (by rw [List.length_take]; omega)]
  rfl
abbrev s_law_parts : Stmt := topS 27
theorem sc_law_parts : FnScope ["pot", "most", "many", "more", "pairs", "name"] ["pot", "most"] (defScope s_law_parts) := ⟨rfl, rfl, rfl, by decide +kernel, rfl, by decide +kernel, by decide +kernel⟩
theorem ok_parts {f fdip fch fsh fnm ffr fns fsg : Addr} {fd fddip fdch fdsh fdnm fdfr fdns fdsg : FuncData} (T : Txt mg) (D : Def K mg "_law_parts" s_law_parts ["pot", "most"] f fd) (D_law_dip : Def K mg "_law_dip" s_law_dip ["pot", "total"] fdip fddip) (D_law_choose : Def K mg "_law_choose" s_law_choose ["pot", "items"] fch fdch)
    (D_law_shuffled : Def K mg "_law_shuffled" s_law_shuffled ["pot", "items"] fsh fdsh) (D_law_name : Def K mg "_law_name" s_law_name ["pot"] fnm fdnm) (D_law_free : Def K mg "_law_free" s_law_free ["names"] ffr fdfr)
    (D_law_names : Def K mg "_law_names" s_law_names ["pot", "many"] fns fdns) (D_law_signs : Def K mg "_law_signs" s_law_signs ["pot"] fsg fdsg) : FnOk P w K mg base CX0 5 f fd ["pot", "most"] (spParts K) := by
  have G_law_dip : FnOk P w K mg base CX0 1 fdip fddip ["pot", "total"] spDip := ok_dip T D_law_dip
  have G_law_names : FnOk P w K mg base CX0 4 fns fdns ["pot", "many"] spNames := ok_names T D_law_names D_law_dip D_law_choose D_law_name D_law_free
  have G_law_signs : FnOk P w K mg base CX0 3 fsg fdsg ["pot"] spSigns := ok_signs T D_law_signs D_law_dip D_law_choose D_law_shuffled
  refine D.F.ok sc_law_parts (fun vs H Q E h => ?_) (fun cdv A outer s H vs Q E hr h => ?_)
  · obtain ⟨a, n, rfl, _⟩ := h
    rfl
  · obtain ⟨a, n, rfl, pot, n1, n3, k⟩ := h
    refine ⟨_, (pss_cons (ps_par (i := 2) (j := 3) (by rfl) sc_law_parts.nd rfl rfl (by decide) rfl rfl (pa_cons (pe_op (Z.k_add (K := K)) pe_int (pe_call G_law_dip (hr.mono (by decide)) (by rfl) D_law_dip.g D_law_dip.F.kp D_law_dip.b .nil pass0 (pa_cons (pv 0) (pa_cons (pv 1) pa_nil)))) (pa_cons (pe_call G_law_dip (hr.mono (by decide)) (by rfl) D_law_dip.g D_law_dip.F.kp D_law_dip.b .nil pass0 (pa_cons (pv 0) (pa_cons (pe_op (Z.k_add (K := K)) (pv 1) pe_int) pa_nil))) pa_nil)) (by rfl))
 (pss_cons (ps_setLc (i := 4) (own := [("name", 5)]) (by rfl) sc_law_parts.nd rfl rfl (sw_true rfl rfl rfl (by decide +kernel)) (pi_list (pe_call G_law_names (hr.mono (by decide)) (by rfl) D_law_names.g D_law_names.F.kp D_law_names.b .nil pass0 (pa_cons (pv 0) (pa_cons (pe_op (Z.k_add (K := K)) (pv 2) (pv 3)) pa_nil)))) (blkOk_by (own := [("name", 5)]) (N := ["pot", "most", "many", "more", "pairs", "name"]) (sc := defScope s_law_parts) (by decide +kernel))
   (fun _ _ _ _ _ => (pg_name (i := 5) sc_law_parts.nd rfl (by first | exact Or.inl rfl | exact Or.inr rfl))) (fun _ _ _ _ _ => pts_nil) (fun _ _ _ _ _ => (pe_tup (pa_cons (pv 5) (pa_cons (pe_call G_law_signs (hr.mono (by decide)) (by rfl) D_law_signs.g D_law_signs.F.kp D_law_signs.b .nil pass0 (pa_cons (pv 0) pa_nil)) pa_nil)))))
 (pss_one (ps_ret (pe_lst (pa_cons (pe_callTy (Z.k_tuple (K := K)) (by rfl) T.tuple (by decide +kernel) (pa_cons (pe_slice (Z.k_cut (K := K)) (pv 4) po_none (po_some (pv 2))) pa_nil)) (pa_cons (pe_callTy (Z.k_tuple (K := K)) (by rfl) T.tuple (by decide +kernel) (pa_cons (pe_slice (Z.k_cut (K := K)) (pv 4) (po_some (pv 2)) po_none) pa_nil)) pa_nil))))))), ?_⟩
    walk_at "st"
    refine ⟨a, n, rfl, pot, by omega, by omega, fun H1 r1 m1 r10 r11 => ?_⟩
    walk_at "st"
    refine ⟨a, n + 1, rfl, m1.pot, by omega, by omega, fun H2 r2 m2 r20 r21 => ?_⟩
    have m02 := m1.trans m2
    walk_at "st"
    refine ⟨a, 1 + r1 + r2, rfl, m02.pot, by omega, by omega, fun H3 p zs m3 np hp many nd hz => ?_⟩
    have m03 := m02.trans m3
    have npH : H p = none := m02.free pot np
    have pa : p ≠ a := Mv.ne pot (Mv.refl pot) npH
    walk_at "st"
    have fr : ∀ L, H3 L = none → H L = none ∧ L ≠ p := fun L e => ⟨m03.free pot e, fun z => by
      rw [z, hp] at e
      cases e⟩
    refine ⟨⟨_, SqL.of hp⟩, comp2 (walkL (xs := oneOf zs)) (fun H4 => Mv a H H4 ∧ H4 p = some (.lst (oneOf zs))) (fun L i acc H4 => ∃ ss : List Str, ss.length = i ∧ (∀ s ∈ ss, signsB s = true) ∧ DzAll K (hid L (hid a H4)) acc (((zs.take i).zip ss).map prD)) ⟨m03, hp⟩ ?_ ?_ ?_ (fun H4 m => SqL.of m.2) ?_ ?_⟩
    · rintro L o H4 e ⟨m, h4⟩
      refine ⟨m.upd pot (fr L e).1, ?_⟩
      rw [upd_ne (fr L e).2.symm]
      exact h4
    · rintro L o i acc H4 e _ ⟨ss, h1, h2, h3⟩
      refine ⟨ss, h1, h2, ?_⟩
      rw [hid_comm, hid_upd, ← hid_comm]
      exact h3
    · intro L _
      exact ⟨[], rfl, by simp, .nil⟩
    · rintro L i acc x H4 fresh hi hx len ⟨m, h4⟩ at_ ⟨ss, sl, hss, dz⟩
      have hi2 : i < zs.length := by
        rw [List.length_map] at hi
        exact hi
      have ex : x = .str zs[i] := by
        rw [List.getElem?_map, List.getElem?_eq_getElem hi2] at hx
        exact (Option.some.inj hx).symm
      rw [ex]
      have La : L ≠ a := Mv.ne pot (Mv.refl pot) (fr L fresh).1
      refine turn1 rfl ?_
      walk_at "st"
      refine ⟨a, rfl, m.pot, fun H5 sg mc hsg => ?_⟩
      walk_at "st"
      refine ⟨by show 2 ≤ sizeLine; decide, fun t nt => ?_⟩
      have m5 := (m.trans mc)
      have at5 : H5 L = some (.lst acc) := mc.at La at_
      have ta : t ≠ a := Mv.ne pot m5 nt
      have tL : t ≠ L := (ne_of_none at5 nt).symm
      refine put2 (acc := acc) ?_ ?_ ?_ (by omega) len ⟨m5.new nt, ?_⟩ ⟨ss ++ [sg], ?_, ?_, ?_⟩
      · rintro o H6 ⟨m, h6⟩
        refine ⟨m.upd pot (fr L fresh).1, ?_⟩
        rw [upd_ne (fr L fresh).2.symm]
        exact h6
      · rintro o i acc H6 _ ⟨ss, h1, h2, h3⟩
        refine ⟨ss, h1, h2, ?_⟩
        rw [hid_comm, hid_upd, ← hid_comm]
        exact h3
      · rw [upd_ne tL.symm]
        exact at5
      · rw [upd_ne (ne_of_none (mc.at pa h4) nt)]
        exact mc.at pa h4
      · rw [List.length_append, sl]
        rfl
      · intro s hs
        rcases List.mem_append.mp hs with hs | hs
        · exact hss s hs
        · rw [List.mem_singleton.mp hs]
          exact hsg
      · rw [zip_next (List.getElem?_eq_getElem hi2) sl, List.map_append]
        refine DzAll.app (DzAll.same (same_hidden (mc.same.trans ((Mv.refl m5.pot).new nt).same)) _ _ dz) ?_
        refine .cons (.tup (SqT.of ?_) (.cons (.str _) (.cons (.str _) .nil))) .nil
        rw [hid_ne tL, hid_ne ta, upd_same]
    · rintro L acc H4 fresh len ⟨m, h4⟩ at_ ⟨ss, sl, hss, dz⟩
      have La : L ≠ a := Mv.ne pot (Mv.refl pot) (fr L fresh).1
      rw [List.length_map] at sl
      have full : zs.take (oneOf zs).length = zs := by
        rw [List.length_map]
        exact List.take_length
      rw [full] at dz
      have dz2 : DzAll K (hid a H4) acc ((zs.zip ss).map prD) := DzAll.same same_hid _ _ dz
      walk_at "st"
      refine .inl ⟨L, acc, rfl, SqL.of at_, fun p4 np4 => ?_⟩
      rw [cut_take _ (by omega)]
      have q4 : Mv a H4 (upd H4 p4 (.lst (acc.take (1 + r1).toNat))) := (Mv.refl m.pot).new np4
      walk_at "st"
      refine ⟨_, .inl ⟨SqL.of upd_same, fun t1 nt1 => ?_⟩⟩
      have q5 := q4.new (o := .tup (acc.take (1 + r1).toNat)) nt1
      have at5 := q5.at La at_
      have ta1 : t1 ≠ a := Mv.ne m.pot q4 nt1
      walk_at "st"
      refine .inl ⟨L, acc, rfl, SqL.of at5, fun p6 np6 => ?_⟩
      rw [cut_drop _ (by omega)]
      have q6 := q5.new (o := .lst (acc.drop (1 + r1).toNat)) np6
      have tn1 := ne_of_none upd_same np6
      walk_at "st"
      refine ⟨_, .inl ⟨SqL.of upd_same, fun t2 nt2 => ?_⟩⟩
      have q7 := q6.new (o := .tup (acc.drop (1 + r1).toNat)) nt2
      have ta2 : t2 ≠ a := Mv.ne m.pot q6 nt2
      walk_at "st"
      refine ⟨by show 2 ≤ sizeLine; decide, fun p8 np8 => ?_⟩
      have q8 := q7.new (o := .lst [.ref t1, .ref t2]) np8
      have zl : (zs.zip ss).length = zs.length := by
        rw [List.length_zip, sl, Nat.min_self]
      have e1 : ((zs.zip ss).map prD).take (1 + r1).toNat = ((zs.zip ss).take (1 + r1).toNat).map prD := (List.map_take ..).symm
      have e2 : ((zs.zip ss).map prD).drop (1 + r1).toNat = ((zs.zip ss).drop (1 + r1).toNat).map prD := (List.map_drop ..).symm
      have all : (zs.zip ss).take (1 + r1).toNat ++ (zs.zip ss).drop (1 + r1).toNat = zs.zip ss := List.take_append_drop _ _
      have fst : (zs.zip ss).map (·.1) = zs := List.map_fst_zip (by omega)
      refine k _ p8 t1 t2 ((zs.zip ss).take (1 + r1).toNat) ((zs.zip ss).drop (1 + r1).toNat) (m.trans q8) ((m.trans q7).free pot np8) upd_same ?_ ?_ ?_
      · rw [← e1]
        refine .tup (SqT.of ?_) ((dz2.take _).mv q8)
        rw [hid_ne ta1]
        exact ((((Mv.refl q5.pot).new np6).new nt2).new np8).at ta1 upd_same
      · rw [← e2]
        refine .tup (SqT.of ?_) ((dz2.drop _).mv q8)
        rw [hid_ne ta2]
        exact ((Mv.refl q7.pot).new np8).at ta2 upd_same
      · refine ⟨?_, ?_, ?_, ?_, ?_, ?_⟩
        · rw [List.length_take]
          omega
        · rw [List.length_take]
          omega
        · rw [List.length_drop]
          omega
        · rw [all, fst]
          exact nd
        · rw [all]
          intro q hq
          exact hz q.1 (List.of_mem_zip hq).1
        · rw [all]
          intro q hq
          exact hss q.2 (List.of_mem_zip hq).2
end
end Z
/-! repr of data of any depth. -/
namespace Z
open PySem PySem.Spec PyProof.Rows L2 G
section
variable {X : Cx} {pins : List (Addr × Obj)} {σ : L2.St} {H : Hp} {s : Shared}
theorem vals_keys {P : Program} {w : World} : ∀ {kvs : List (Key × V)} {vs : List (Key × Value)} {es : List DictEntry}, KV kvs vs → Pairs (mixKind P w) es vs → Vals (kvs.map fun p => kV p.1) (es.map (·.key))
  | [], [], [], .nil, .nil => .nil
  | (k, v) :: kvs, (j, u) :: vs, e :: es, .cons ⟨a, b⟩ r, .cons c d q => by
    have a2 : k = j := a
    subst a2
    exact .cons (keyIs_rel c) (vals_keys r q)
theorem vals_vals {P : Program} {w : World} : ∀ {kvs : List (Key × V)} {vs : List (Key × Value)} {es : List DictEntry}, KV kvs vs → Pairs (mixKind P w) es vs → Vals (kvs.map (·.2)) (es.map (·.val))
  | [], [], [], .nil, .nil => .nil
  | (k, v) :: kvs, (j, u) :: vs, e :: es, .cons ⟨a, b⟩ r, .cons c d q => by
    refine .cons ?_ (vals_vals r q)
    show RelV v e.val
    rw [d]
    exact b
/-- what is known of a value that is to be shown -/
def Shows (X : Cx) (h : Heap) (u : Value) (d : PyData) : Prop :=
  ∃ as bs, Reads h u d as ∧ ReadAtMost h d.depth bs ∧ ReprK X.prog X.w bs h d.depth u d.shown
def ShowsAll (X : Cx) (h : Heap) (us : List Value) (ds : List PyData) : Prop :=
  ∃ as bs, ReadsAll h us ds as ∧ ReadAtMost h (PyData.depthAll ds) bs ∧ ReprAllK X.prog X.w bs h (PyData.depthAll ds) us (PyData.shownAll ds)
theorem ShowsAll.nil {h : Heap} : ShowsAll X h [] [] := ⟨[], [], .nil, (fun _ m => nomatch m), by simp only [PyData.shownAll]; exact .nil⟩
theorem ShowsAll.cons {h : Heap} {u : Value} {us : List Value} {d : PyData} {ds : List PyData} (a : Shows X h u d) (b : ShowsAll X h us ds) : ShowsAll X h (u :: us) (d :: ds) := by
  obtain ⟨a1, b1, r1, m1, k1⟩ := a
  obtain ⟨a2, b2, r2, m2, k2⟩ := b
  refine ⟨a1 ++ a2, b1 ++ b2, .cons r1 r2, ?_, ?_⟩
  · simp only [PyData.depthAll]
    exact (m1.mono (Nat.le_max_left _ _)).append (m2.mono (Nat.le_max_right _ _))
  · simp only [PyData.depthAll, PyData.shownAll]
    exact .cons ((k1.more fun b hb => List.mem_append_left _ hb).level_le (Nat.le_max_left _ _)) (k2.more_le (fun b hb => List.mem_append_right _ hb) (Nat.le_max_right _ _))
/-- the parts of a list's display, for the call at the top too -/
theorem shows_list {h : Heap} {a : Addr} {its : Array Value} {ds : List PyData} {o : Obj} {n : Nat} (h1 : h.get? a = some o) (h2 : o.cls = .type "list") (h3 : o.data = .seq its n) (q : ShowsAll X h its.toList ds) : Shows X h (.ref a) (.list ds) := by
  obtain ⟨as, bs, r, m, k⟩ := q
  have rr : Reads h (.ref a) (.list ds) _ := .list h1 h2 h3 r
  have hna : a ∉ bs := not_mem_of_deeper rr (by simp only [PyData.depth]; omega) m
  refine ⟨_, a :: bs, rr, ReadAtMost.cons rr (by simp only [PyData.depth]; omega) m, ?_⟩
  simp only [PyData.depth, PyData.shown]
  obtain ⟨l⟩ := its
  cases l with
  | nil =>
    have r2 : ReadsAll h [] ds _ := r
    cases r2
    simp only [PyData.shownAll, listText_nil]
    exact ReprK.listEmpty h1 h2 h3
  | cons x l => exact ReprK.list h1 h2 h3 hna (by simpa using k.length_eq) (fun i y e => k.item i y (by simpa using e))
mutual
theorem shows_of (I : Inv X pins σ H s) : ∀ (d : PyData) (v : V) (u : Value), Dz X.K H v d → RelV v u → d.showable = true → d.shown.length ≤ sizeLine → Shows X s.heap u d
  | .none, _, u, h, r, _, _ => by
    cases h
    cases r
    exact ⟨_, [], .none, (fun _ m => nomatch m), by simp only [PyData.shown]; exact .of_is ReprIs.none _ _ _⟩
  | .bool b, _, u, h, r, _, _ => by
    cases h
    cases r
    exact ⟨_, [], .bool b, (fun _ m => nomatch m), by simp only [PyData.shown]; exact .of_is (ReprIs.bool b) _ _ _⟩
  | .int i, _, u, h, r, hs, _ => by
    cases h
    obtain ⟨t, rfl⟩ := r
    exact ⟨_, [], .int i t, (fun _ m => nomatch m), by simp only [PyData.shown]; exact .of_is (ReprIs.int t (by simpa [PyData.showable] using hs)) _ _ _⟩
  | .str x, _, u, h, r, _, hz => by
    cases h
    obtain ⟨t, rfl⟩ := r
    exact ⟨_, [], .str x t, (fun _ m => nomatch m), by simp only [PyData.shown]; exact .of_is (ReprIs.str x t (by simpa only [PyData.shown] using hz)) _ _ _⟩
  | .list ds, _, u, h, r, hs, hz => by
    cases h with
    | lst a b =>
      cases r
      obtain ⟨its, rv, ⟨o, n, ho, hc, _, hd⟩, _⟩ := I.list a
      have hz2 : (listText (PyData.shownAll ds)).length ≤ sizeLine := by simpa only [PyData.shown] using hz
      exact shows_list ho hc hd (shows_all I ds _ _ b (by simpa using rv) (by simpa [PyData.showable] using hs) fun t ht => Nat.le_trans (listText_mem_le ht) hz2)
  | .tuple ds, _, u, h, r, hs, hz => by
    cases h with
    | tup a b =>
      cases r
      obtain ⟨its, rv, ⟨o, ho, hc, n, hd⟩, _⟩ := I.tuple a
      have hz2 : (tupleText (PyData.shownAll ds)).length ≤ sizeLine := by simpa only [PyData.shown] using hz
      obtain ⟨as, bs, r, m, k⟩ := shows_all I ds _ its b rv (by simpa [PyData.showable] using hs) fun t ht => Nat.le_trans (tupleText_mem_le ht) hz2
      have rr : Reads s.heap (.ref _) (.tuple ds) _ := .tuple ho hc hd (by simpa using r)
      have hna := not_mem_of_deeper rr (by simp only [PyData.depth]; omega) m
      refine ⟨_, _ :: bs, rr, ReadAtMost.cons rr (by simp only [PyData.depth]; omega) m, ?_⟩
      simp only [PyData.depth, PyData.shown]
      exact ReprK.tuple ho hc hd hna (by simpa using k)
  | .dict es, _, u, h, r, hs, hz => by
    cases h with
    | dic a b c =>
      cases r
      obtain ⟨_, sys, vs, kv, o, en, ep, ho, hex, hd, _, pairs, _⟩ := I.hok _ _ a
      have hz2 : (dictText (PyData.shownKv es)).length ≤ sizeLine := by simpa only [PyData.shown] using hz
      obtain ⟨hs1, hs2⟩ := PyData.showableKv_split es (by simpa [PyData.showable] using hs)
      obtain ⟨a1, b1, r1, m1, k1⟩ := shows_keys I es _ _ b (vals_keys kv pairs) hs1 fun t ht => let ⟨p, hp, hl⟩ := PyData.shownKv_key_le es t ht; Nat.le_trans hl (Nat.le_trans (dictText_mem_le hp) hz2)
      obtain ⟨a2, b2, r2, m2, k2⟩ := shows_vals I es _ _ c (vals_vals kv pairs) hs2 fun t ht => let ⟨p, hp, hl⟩ := PyData.shownKv_val_le es t ht; Nat.le_trans hl (Nat.le_trans (dictText_mem_le hp) hz2)
      have rr : Reads s.heap (.ref _) (.dict es) _ := .dict ho hex.1 hd r1 r2
      have m : ReadAtMost s.heap (PyData.depthKv es) (b1 ++ b2) := (m1.mono (PyData.depthAll_keys_le es)).append (m2.mono (PyData.depthAll_vals_le es))
      have hna := not_mem_of_deeper rr (by simp only [PyData.depth]; omega) m
      refine ⟨_, _ :: (b1 ++ b2), rr, ReadAtMost.cons rr (by simp only [PyData.depth]; omega) m, ?_⟩
      simp only [PyData.depth, PyData.shown, PyData.shownKv_eq]
      exact ReprK.dict ho hex.1 hd sys hna (ReprEntriesK.of_two en.toList _ _
        (k1.more_le (fun b hb => List.mem_append_left _ hb) (PyData.depthAll_keys_le es)) (k2.more_le (fun b hb => List.mem_append_right _ hb) (PyData.depthAll_vals_le es)))
theorem shows_all (I : Inv X pins σ H s) : ∀ (ds : List PyData) (vs : List V) (us : List Value), DzAll X.K H vs ds → Vals vs us → PyData.showableAll ds = true → (∀ t ∈ PyData.shownAll ds, t.length ≤ sizeLine) → ShowsAll X s.heap us ds
  | [], _, _, h, r, _, _ => by
    cases h
    cases r
    exact .nil
  | d :: ds, _, _, h, r, hs, hz => by
    cases h with
    | cons a b =>
      cases r with
      | cons c e =>
        have hs2 : d.showable = true ∧ PyData.showableAll ds = true := by simpa [PyData.showableAll] using hs
        exact .cons (shows_of I d _ _ a c hs2.1 (hz _ (by simp only [PyData.shownAll]; exact List.mem_cons_self ..))) (shows_all I ds _ _ b e hs2.2 fun t ht => hz t (by simp only [PyData.shownAll]; exact List.mem_cons_of_mem _ ht))
theorem shows_keys (I : Inv X pins σ H s) : ∀ (es : List (PyData × PyData)) (vs : List V) (us : List Value), DzAll X.K H vs (es.map (·.1)) → Vals vs us → PyData.showableAll (es.map (·.1)) = true → (∀ t ∈ PyData.shownAll (es.map (·.1)), t.length ≤ sizeLine) → ShowsAll X s.heap us (es.map (·.1))
  | [], _, _, h, r, _, _ => by
    cases h
    cases r
    exact .nil
  | (d, d2) :: ds, _, _, h, r, hs, hz => by
    cases h with
    | cons a b =>
      cases r with
      | cons c e =>
        have hs2 : d.showable = true ∧ PyData.showableAll (ds.map (·.1)) = true := by simpa [PyData.showableAll] using hs
        exact .cons (shows_of I d _ _ a c hs2.1 (hz _ (by simp only [PyData.shownAll, List.map_cons]; exact List.mem_cons_self ..))) (shows_keys I ds _ _ b e hs2.2 fun t ht => hz t (by simp only [PyData.shownAll, List.map_cons]; exact List.mem_cons_of_mem _ ht))
theorem shows_vals (I : Inv X pins σ H s) : ∀ (es : List (PyData × PyData)) (vs : List V) (us : List Value), DzAll X.K H vs (es.map (·.2)) → Vals vs us → PyData.showableAll (es.map (·.2)) = true → (∀ t ∈ PyData.shownAll (es.map (·.2)), t.length ≤ sizeLine) → ShowsAll X s.heap us (es.map (·.2))
  | [], _, _, h, r, _, _ => by
    cases h
    cases r
    exact .nil
  | (d2, d) :: ds, _, _, h, r, hs, hz => by
    cases h with
    | cons a b =>
      cases r with
      | cons c e =>
        have hs2 : d.showable = true ∧ PyData.showableAll (ds.map (·.2)) = true := by simpa [PyData.showableAll] using hs
        exact .cons (shows_of I d _ _ a c hs2.1 (hz _ (by simp only [PyData.shownAll, List.map_cons]; exact List.mem_cons_self ..))) (shows_vals I ds _ _ b e hs2.2 fun t ht => hz t (by simp only [PyData.shownAll, List.map_cons]; exact List.mem_cons_of_mem _ ht))
end
/-- repr(xs) of a list of data -/
def rRepr (K : PySem.W.Frag) : List V → Hp → VK → Prop := fun vs H Q => match vs with
  | [.ref p] => ∃ ds, Dz K H (.ref p) (.list ds) ∧ PyData.showableAll ds = true ∧ (PyData.list ds).shown.length ≤ sizeLine ∧ (PyData.list ds).depth ≤ 100 ∧ Q (.str (PyData.list ds).shown) H
  | _ => False
theorem call_repr {X : Cx} {k : Nat} (quiet : Quiet X.A) (room : Room k X.A) : CallR X (.builtin "repr") (rRepr X.K) := by
  intro pins s σ H xs us Q I r h
  match xs, h with
  | [.ref p], ⟨ds, dz, sh, sz, dp, q⟩ =>
    have eu : us = [.ref p] := by
      cases r with
      | cons a b =>
        cases b
        cases a
        rfl
    subst eu
    have un := room.un
    cases dz with
    | lst a b =>
      obtain ⟨its, rv, ⟨o, n, ho, hc, _, hd⟩, _⟩ := I.list a
      have hz2 : (listText (PyData.shownAll ds)).length ≤ sizeLine := by simpa only [PyData.shown] using sz
      obtain ⟨as, bs, rr0, m, kk⟩ := shows_all I ds _ its b rv sh fun t ht => Nat.le_trans (listText_mem_le ht) hz2
      have rr : Reads s.heap (.ref p) (.list ds) _ := .list ho hc hd (by simpa using rr0)
      have hna : p ∉ bs := not_mem_of_deeper rr (by simp only [PyData.depth]; omega) m
      simp only [PyData.depth] at dp
      simp only [PyData.shown] at q
      have fin : ∀ h' tk u, (∀ b o, s.heap.get? b = some o → h'.get? b = some o) → EP X pins σ Q (.str (listText (PyData.shownAll ds)) u) { s with heap := h', toks := tk } := fun h' tk u hk =>
        ⟨.str _, H, I.kept (t' := tk) hk, ⟨u, rfl⟩, q⟩
      refine call_repr_slot (by omega) ⟨o, ho, hc⟩ PySem.F.slot_list_repr.toG ?_
      cases its with
      | nil =>
        have r2 : ReadsAll s.heap [] ds _ := rr0
        cases r2
        simp only [PyData.shownAll, listText_nil] at fin
        exact call_list_repr_empty ⟨o, ho, hc⟩ ho hd ⟨_, _, rfl, fin _ _ _ fun _ _ e => e⟩
      | cons x l =>
        exact call_list_reprK ho hc hd hna (by simpa using kk.length_eq) (fun i y e => kk.item i y (by simpa using e)) quiet (fun b _ => Clear.nil b) (by show X.A.units + 1 + (PyData.depthAll ds + 1) < cLine; omega) (fun _ _ e => e) (fun h' u tk hk => ⟨_, _, rfl, fin h' tk u hk⟩) hz2
end
end Z
/-! len(set(xs)) of texts. -/
namespace Z
open PySem PySem.Spec PyProof.Rows L2 G
/-- the different texts of the first i, in the order of their first places -/
def ded (xs : List Str) (i : Nat) : List Str := (xs.take i).foldl step_dedup []
theorem ded_0 (xs : List Str) : ded xs 0 = [] := rfl
theorem ded_next {xs : List Str} {i : Nat} (h : i < xs.length) : ded xs (i + 1) = step_dedup (ded xs i) (xs.getD i Str.empty) := by
  unfold ded
  rw [List.getD_eq_getElem?_getD, List.take_add_one, List.foldl_append, List.getElem?_eq_getElem h]
  rfl
theorem ded_len (xs : List Str) (i : Nat) : (ded xs i).length ≤ xs.length := by
  have a := length_foldl_step_dedup_le (xs.take i) ([] : List Str)
  have b : (xs.take i).length ≤ xs.length := by rw [List.length_take]; omega
  unfold ded
  simp only [List.length_nil, Nat.zero_add] at a
  omega
theorem stepS_any (l : List Str) (x k : Str) : (step_dedup l x).any (· == k) = (l.any (· == k) || decide (k = x)) := by
  unfold step_dedup
  by_cases c : l.any (· == x) = true
  · rw [if_pos c]
    by_cases e : k = x
    · rw [e, c]
      simp
    · simp [e]
  · rw [if_neg c, List.any_append]
    by_cases e : k = x
    · simp [e]
    · have f : (x == k) = false := beq_eq_false_iff_ne.mpr fun g => e g.symm
      simp [f, e]
theorem stepS_len (l : List Str) (x : Str) : (step_dedup l x).length = if l.any (· == x) then l.length else l.length + 1 := by
  unfold step_dedup
  split <;> simp
/-- at a stand the set of the first i texts -/
abbrev DedAt (P : Program) (w : World) (h : Heap) (a : Addr) (xs : List Str) (i : Nat) : Prop := h.SetOf (PySem.strKind P w) a (fun k => (ded xs i).any (· == k)) (ded xs i).length
theorem DedAt.keeps {P : Program} {w : World} {h h1 : Heap} {a : Addr} {xs : List Str} {i : Nat} (d : DedAt P w h a xs i) (k : ∀ o, h.get? a = some o → h1.get? a = some o) : DedAt P w h1 a xs i :=
  let ⟨o, es, ep, t, e, r⟩ := d
  ⟨o, es, ep, t, k o e, r⟩
section
variable {P : Program} {w : World} {A : Around} {R : Result → Shared → Prop} {it : Addr} {fp wr : List Addr} {g : Array GenState → Array GenState → Prop} {n : Nat} {pv : Nat → Value → Prop} {st : Nat → Shared → Prop}
theorem set_loop (W : WalksS P w A.in1 it fp wr g n pv st) (a : Addr) (apart : a ∉ fp) (xs : List Str) (size : xs.length = n) (small : n + 1 < scanBound) (texts : ∀ i v, pv i v → ∃ t, v = .str (xs.getD i Str.empty) t) :
    ∀ (left i : Nat) (s : Shared), i + left = n → st i s → DedAt P w s.heap a xs i → (∀ s1, Moved (a :: wr) g s s1 → DedAt P w s1.heap a xs n → R (.ok (.ret .none)) s1) →
      codeAny (model P w) A (.builtin "set.update.loop" ⟨[.ref a, .ref it], []⟩) R s
  | 0, i, s, e, now, d, fin => by
    have e2 : i = n := e
    subst e2
    refine codeAny_builtin PyProof.Rows.F.entry_set_update_loop ?_
    rw [Around.under_plainId PyProof.Rows.F.plain_set_update_loop _]
    refine wpAny_bind (m := pyNext (.ref it)) (W.done s _ _ now fun s1 mv => wpAny_pure (fin s1 (mv.mono fun b hb => List.mem_cons_of_mem _ hb) (d.keeps fun o q => mv.heap a o (fun c => apart (W.sub _ c)) q)))
  | left + 1, i, s, e, now, d, fin => by
    have lt : i < n := by omega
    refine codeAny_builtin PyProof.Rows.F.entry_set_update_loop ?_
    rw [Around.under_plainId PyProof.Rows.F.plain_set_update_loop _]
    refine wpAny_bind (m := pyNext (.ref it)) (W.item i s _ _ lt now fun v s1 is now1 mv => ?_)
    obtain ⟨t, rfl⟩ := texts i v is
    have d1 : DedAt P w s1.heap a xs i := d.keeps fun o q => mv.heap a o (fun c => apart (W.sub _ c)) q
    refine wpAny_bind (m := holding _ _) (wpAny_holding ?_)
    unfold setAdd
    refine wpAny_holding (wpAny_bind ((PySem.strKind P w).pyHash (k := xs.getD i Str.empty) (strKind_is _ _ _ _) ?_))
    have room : (ded xs i).length + 1 < scanBound := by
      have := ded_len xs i
      omega
    refine wpAny_setAddHashed_of (knd := PySem.strKind P w) (s := { s1 with toks := s1.toks + 1 }) (strKind_is _ _ _ _) rfl d1 room fun h1 but d2 => ?_
    have lx : i < xs.length := by omega
    have d3 : DedAt P w h1 a xs (i + 1) := SetOf_congr d2 (fun k => by rw [ded_next lx, stepS_any]) (by rw [ded_next lx, stepS_len])
    refine wpAny_pure ⟨plainId_quiet PyProof.Rows.F.plain_set_update_loop _, set_loop W a apart xs size small texts left (i + 1) _ (by omega) (W.frame _ s1 _ _ now1 (Nat.le_succ _) fun b hb o q => ?_) d3 fun s2 mv2 d4 => ?_⟩
    · rw [but.2 b fun c => apart (c ▸ hb)]
      exact q
    refine fin s2 (Moved.trans W.gtrans ((mv.mono fun b hb => List.mem_cons_of_mem _ hb).then_heap (Nat.le_succ _) fun b o hb q => ?_) mv2) d4
    rw [but.2 b fun c => hb (c ▸ List.mem_cons_self)]
    exact q
end
/-- a new set's object -/
abbrev newSet (led : Bool) : Obj := { cls := .type "set", dict := none, data := .set #[] 0 (.fresh 0 0 led) }
/-- what set(l) leaves -/
def SetMade (P : Program) (w : World) (s : Shared) (xs : List Str) (s1 : Shared) : Prop :=
  ∃ h tk, s1 = { s with heap := h, toks := tk } ∧ DedAt P w h s.heap.objs.size xs xs.length ∧ ∀ b o, b < s.heap.objs.size → s.heap.get? b = some o → h.get? b = some o
theorem call_setS {P : Program} {w : World} {A : Around} {E : Value → Shared → Prop} {s : Shared} {l : Addr} {its : List Value} {xs : List Str} {Q : Value → Shared → Prop} (calm : A.handled = none) (at_l : s.heap.IsList l its.toArray) (rel : Vals (xs.map V.str) its) (small : xs.length + 1 < scanBound)
    (q : ∀ s1, SetMade P w s xs s1 → Q (.ref s.heap.objs.size) s1) : wpAny (model P w) A (call (.type "set") [.ref l]) Q E s := by
  have len : its.length = xs.length := by rw [← rel.length, List.length_map]
  obtain ⟨c0, c1, mro⟩ := PySem.F.called_set.mro
  have made := PySem.F.called_set.made
  have sub := PySem.F.called_set.sub
  refine wpAny_call (codeAny_of_tree ?_)
  show wpAny _ _ (callAny (.type "set") _) _ _ _
  refine wpAny_pure ⟨Code.quiet_builtin _ (by decide +kernel), codeAny_builtin PySem.F.entry_type_call ?_⟩
  rw [Around.under_plain (weight_type_call_type "set" [.ref l] []) rfl]
  have noType := PySem.F.called_set.notType
  have create := PySem.F.called_set.canCreate
  have args := PySem.F.typeCall_set_1 (.ref l)
  repeat (any_goals (first | assumption | wp_step))
  refine codeAny_mono (code_set_new_1 (.ref l) (E := E) (Q₁ := fun v s1 => ∃ led, v = .ref s.heap.objs.size ∧ s1 = { s with heap := s.heap.push (newSet led) }) fun led => ⟨led, rfl, rfl⟩) fun res s1 new => ?_
  match res, new with
  | .error e, new => exact new
  | .ok (.ret v), new =>
    obtain ⟨led, rfl, rfl⟩ := new
    have at_a : (s.heap.push (newSet led)).get? s.heap.objs.size = some (newSet led) := Heap.get?_push_size _ rfl
    have is_a : Shared.TypeIs { s with heap := s.heap.push (newSet led) } (.ref s.heap.objs.size) "set" := ⟨_, at_a, rfl⟩
    have looked := PySem.F.called_set.init.lookup
    have bound := PySem.F.called_set.init.bind (.ref s.heap.objs.size)
    repeat (any_goals (first | assumption | wp_step))
    refine codeAny_mono (codeAny_call_builtin (R := wants (fun r s2 => r = .none ∧ SetMade P w s xs s2) E) PySem.F.called_set.init.plain PySem.F.entry_set_init (check_set_init_1 is_a ?_)) fun res2 s2 z => ?_
    · obtain ⟨⟨cl, di, da, sl⟩, e1, e2, nl, e3⟩ := at_l
      simp only at e2 e3
      subst e2
      subst e3
      have old : (s.heap.push (newSet led)).get? l = some { cls := .type "list", dict := di, data := .seq its.toArray nl, slots := sl } := Heap.get?_push_of_some _ e1
      have notSet := PySem.F.sub_list_set
      have notFroz := PySem.F.sub_list_frozenset
      have notDict : (Value.type "list" == Value.type "dict") = false := by decide
      have isL : (s.heap.push (newSet led)).IsList l its.toArray := ⟨_, old, rfl, nl, rfl⟩
      have ll : l < s.heap.objs.size := Heap.lt_size e1
      unfold Builtin.«set.__init__» noKeywords Builtin.Frozenset.updateFrom
      generalize hid : pyIter = PI
      wp_walk
      subst hid
      refine wpAny_pyIter_list isL (wpAny_bind (wpAny_runValue ?_))
      have calm3 : A.in1.in1.in1.handled = none := calm
      have sz1 : (s.heap.push (newSet led)).objs.size = s.heap.objs.size + 1 := Heap.size_push ..
      have ne1 : l ≠ (s.heap.push (newSet led)).objs.size := by
        rw [sz1]
        exact Nat.ne_of_lt (Nat.lt_succ_of_lt ll)
      have ne2 : s.heap.objs.size ∉ [(s.heap.push (newSet led)).objs.size, l] := by
        rw [sz1]
        intro c
        rcases List.mem_cons.mp c with c | c
        · exact Nat.ne_of_lt (Nat.lt_succ_self _) c
        · exact Nat.ne_of_gt ll (List.mem_singleton.mp c)
      have texts : ∀ (i : Nat) (v : Value), its.toArray[i]? = some v → ∃ t, v = .str (xs.getD i Str.empty) t := by
        intro i v e
        rw [List.getElem?_toArray] at e
        have lt : i < xs.length := by
          rw [← len]
          exact (List.getElem?_eq_some_iff.mp e).1
        obtain ⟨u, e4, t, e5⟩ := Vals.get (i := i) (x := .str xs[i]) rel (by rw [List.getElem?_map, List.getElem?_eq_getElem lt]; rfl)
        rw [e4] at e
        refine ⟨t, ?_⟩
        rw [← Option.some.inj e, e5, List.getD_eq_getElem?_getD, List.getElem?_eq_getElem lt]
        rfl
      have zero : ((s.heap.push (newSet led)).push { cls := .type "list_iterator", data := .fields #[.ref l, .int 0 0] }).get? s.heap.objs.size = some (newSet led) := Heap.get?_push_of_some _ at_a
      have d0 : DedAt P w ((s.heap.push (newSet led)).push { cls := .type "list_iterator", data := .fields #[.ref l, .int 0 0] }) s.heap.objs.size xs 0 :=
        SetOf_congr ((PyProof.Rows.setObjOf_fresh (knd := PySem.strKind P w) led).setOf zero (by unfold scanBound; omega)) (fun _ => rfl) rfl
      refine set_loop (n := its.toArray.size) ((Walks.list calm3 _ l ne1 its.toArray).toS) s.heap.objs.size ne2 xs (by rw [List.size_toArray, len]) (by rw [List.size_toArray, len]; exact small) texts its.toArray.size 0 _ (Nat.zero_add _) ⟨⟨_, Heap.get?_push_size _ rfl, rfl, rfl⟩, isL.push _⟩ d0 ?_
      intro s3 mv d3
      obtain ⟨h3, g3, dr3, tk3, os3⟩ := s3
      have e4 : g3 = s.gens := mv.gens
      have e5 : dr3 = s.drawn := mv.drawn
      have e6 : os3 = s.os := mv.os
      subst e4 e5 e6
      show wpAny _ _ _ _ _ _
      refine wpAny_pure ?_
      show wpAny _ _ (ret Value.none) _ _ _
      have zs : its.toArray.size = xs.length := by rw [List.size_toArray, len]
      rw [zs] at d3
      refine wpAny_pure ⟨rfl, h3, tk3, rfl, d3, fun b o lt e => ?_⟩
      refine mv.heap b o ?_ (Heap.get?_push_of_some _ (Heap.get?_push_of_some _ e))
      rw [sz1]
      intro c
      rcases List.mem_cons.mp c with c | c
      · exact Nat.ne_of_lt lt c
      · have c2 := List.mem_singleton.mp c
        exact Nat.ne_of_lt (Nat.lt_succ_of_lt lt) c2
    · match res2, z with
      | .error e, z => exact z
      | .ok (.ret r), z =>
        obtain ⟨rfl, z⟩ := z
        obtain ⟨h3, tk3, rfl, z2⟩ := z
        repeat (any_goals (first | assumption | wp_step))
        exact q _ ⟨h3, tk3, rfl, z2⟩
/-- len(set(xs)), xs a list of texts -/
def tLenSetS (K : PySem.W.Frag) (ta : TE) : TE := fun σ H Q => ta σ H fun x H1 => ∃ l, ∃ xs : List Str, x = .ref l ∧ SqL K H1 l (xs.map V.str) ∧ xs.length < 1000 ∧ Q (.int (ded xs xs.length).length) H1
theorem pe_lenSetS {X : Cx} {a : Expr} {ta : TE} {p p2 q pos : Pos} (hc : X.calm = true) (hg : Gl X "len") (hm : X.mg "len" = none) (hg2 : Gl X "set") (hm2 : X.mg "set" = none) (ha : PE X a ta)
    (na : starEach [a] X.env = (false, eval a X.env) :: starEach [] X.env := by rfl) : PE X (.Call (.Name "len" p) [.Call (.Name "set" p2) [a] [] q] [] pos) (tLenSetS X.K ta) := by
  refine ⟨?_⟩
  intro pins s σ H Q I want
  refine Call_ (ld_blt I hg hm PySem.boot_len (PyProof.Rows.callWith_builtin1 (PyProof.Rows.args_cons ?_ rfl) rfl rfl))
  refine Call_ (ld_blt I hg2 hm2 PyProof.Rows.boot_set (PyProof.Rows.callWith_type1 (PyProof.Rows.args_cons (thn (ha.run pins s σ H _ I want) ?_) na) na rfl))
  rintro v s1 ⟨x, H1, I1, r1, l, xs, rfl, hl, small, q⟩
  refine PyProof.Rows.args_nil ?_
  cases r1
  obtain ⟨its, r, pl, _⟩ := I1.list hl
  refine call_setS (I1.ok.hd hc) pl.isList r (by unfold scanBound; omega) ?_
  rintro s2 ⟨h, tk, rfl, d, keep⟩
  refine PyProof.Rows.args_nil ?_
  obtain ⟨o, es, ep, t, ho, hex, hd, _, _, _, hf, hn⟩ := d
  have I2 : Inv X pins σ H1 { s1 with heap := h, toks := tk } := I1.kept fun b o e => keep b o (Heap.lt_size e) e
  have le := ded_len xs xs.length
  refine call_len_set ho hex hd hf (by rw [hn] <;> omega) ⟨.int (ded xs xs.length).length, H1, I2.tok _, ⟨_, by rw [hn]⟩, q⟩
end Z
/-! Data: how long their texts are; what they are judged to be. -/
namespace Z
open PySem PySem.Spec PyProof.Rows L2 G
mutual
/-- at least the length of the text -/
def wt : PyData → Nat
  | .none => 4
  | .bool _ => 5
  | .int i => (toString i : Str).length
  | .str x => 10 * x.length + 2
  | .list ds => 2 + wtAll ds
  | .tuple ds => 3 + wtAll ds
  | .dict es => 2 + wtKv es
def wtAll : List PyData → Nat
  | [] => 0
  | d :: ds => wt d + 2 + wtAll ds
def wtKv : List (PyData × PyData) → Nat
  | [] => 0
  | (k, v) :: es => wt k + wt v + 4 + wtKv es
end
mutual
/-- numbers and signs that can be shown -/
def fitD : PyData → Bool
  | .none => true
  | .bool _ => true
  | .int i => decide (i.natAbs.log2 < 1920)
  | .str x => x.cps.toList.all fun c => decide (c < 16 ^ 8)
  | .list ds => fitAll ds
  | .tuple ds => fitAll ds
  | .dict es => fitKv es
def fitAll : List PyData → Bool
  | [] => true
  | d :: ds => fitD d && fitAll ds
def fitKv : List (PyData × PyData) → Bool
  | [] => true
  | (k, v) :: es => fitD k && fitD v && fitKv es
end
mutual
theorem fit_show : ∀ d : PyData, fitD d = true → d.showable = true
  | .none, _ => by simp [PyData.showable]
  | .bool _, _ => by simp [PyData.showable]
  | .int i, h => by
    simpa [PyData.showable, fitD] using h
  | .str x, _ => by simp [PyData.showable]
  | .list ds, h => by
    simp only [PyData.showable]
    exact fit_showAll ds (by simpa [fitD] using h)
  | .tuple ds, h => by
    simp only [PyData.showable]
    exact fit_showAll ds (by simpa [fitD] using h)
  | .dict es, h => by
    simp only [PyData.showable]
    exact fit_showKv es (by simpa [fitD] using h)
theorem fit_showAll : ∀ ds : List PyData, fitAll ds = true → PyData.showableAll ds = true
  | [], _ => by simp [PyData.showableAll]
  | d :: ds, h => by
    simp only [fitAll, Bool.and_eq_true] at h
    simp only [PyData.showableAll, fit_show d h.1, fit_showAll ds h.2, Bool.and_self]
theorem fit_showKv : ∀ es : List (PyData × PyData), fitKv es = true → PyData.showableKv es = true
  | [], _ => by simp [PyData.showableKv]
  | (k, v) :: es, h => by
    simp only [fitKv, Bool.and_eq_true] at h
    simp only [PyData.showableKv, fit_show k h.1.1, fit_show v h.1.2, fit_showKv es h.2, Bool.and_self]
end
def sumT (ts : List Str) : Nat := (ts.map fun t => t.length + 2).sum
theorem sumT_cons (t : Str) (ts : List Str) : sumT (t :: ts) = t.length + 2 + sumT ts := by
  unfold sumT
  rw [List.map_cons, List.sum_cons]
theorem piled_is : ∀ ts : List Str, piled ts = sumT ts
  | [] => by simp [piled, sumT]
  | t :: ts => by
    rw [sumT_cons, ← piled_is ts]
    simp [piled]
    try omega
theorem listText_le (ts : List Str) : (listText ts).length ≤ 2 + sumT ts := by
  cases ts with
  | nil =>
    rw [listText_nil]
    show _ ≤ 2 + 0
    decide +kernel
  | cons t ts =>
    have e : (listText (t :: ts)).length = (textFrom 0 "[" (t :: ts)).length + 1 := by
      show (textFrom 0 "[" (t :: ts) ++ "]").length = _
      rw [strLen_append]
      rfl
    rw [e]
    show (textFrom 1 _ ts).length + 1 ≤ _
    rw [textFrom_length_pos _ _ _ (by decide), piled_is, sumT_cons, strLen_append, strLen_append]
    have z1 : (Str.ofString "[").length = 1 := by decide +kernel
    have z2 : (Str.ofString (if 0 > 0 then ", " else "")).length = 0 := by decide +kernel
    show (Str.ofString "[").length + (Str.ofString (if 0 > 0 then ", " else "")).length + t.length + sumT ts + 1 ≤ _
    rw [z1, z2]
    omega
theorem joined_le (ts : List Str) : (Str.join ", " ts).length ≤ sumT ts := by
  by_cases h : ts = []
  · subst h
    show _ ≤ 0
    decide +kernel
  · have := join_length_add ts h
    rw [piled_is] at this
    omega
theorem tupleText_le (ts : List Str) : (tupleText ts).length ≤ 3 + sumT ts := by
  unfold tupleText
  rw [strLen_append, strLen_append]
  have a := joined_le ts
  have z1 : (Str.ofString "(").length = 1 := by decide +kernel
  have z2 : (Str.ofString (if ts.length == 1 then ",)" else ")")).length ≤ 2 := by
    by_cases c : (ts.length == 1) = true
    · rw [if_pos c]
      decide +kernel
    · rw [if_neg c]
      decide +kernel
  show (Str.ofString "(").length + _ + (Str.ofString (if ts.length == 1 then ",)" else ")")).length ≤ _
  omega
theorem dictText_le (ts : List Str) : (dictText ts).length ≤ 2 + sumT ts := by
  unfold dictText
  rw [strLen_append, strLen_append]
  have a := joined_le ts
  have z1 : (Str.ofString "{").length = 1 := by decide +kernel
  have z2 : (Str.ofString "}").length = 1 := by decide +kernel
  show (Str.ofString "{").length + _ + (Str.ofString "}").length ≤ _
  omega
mutual
theorem shown_le : ∀ d : PyData, fitD d = true → d.shown.length ≤ wt d
  | .none, _ => by
    simp only [PyData.shown, wt]
    decide +kernel
  | .bool b, _ => by
    simp only [PyData.shown, wt]
    cases b <;> decide +kernel
  | .int i, _ => by
    simp only [PyData.shown, wt]
    exact Nat.le_refl _
  | .str x, h => by
    simp only [PyData.shown, wt]
    refine StrLaws.reprText_len x fun c hc => ?_
    have h2 : (x.cps.toList.all fun c => decide (c < 16 ^ 8)) = true := by simpa only [fitD] using h
    exact of_decide_eq_true (List.all_eq_true.mp h2 c hc)
  | .list ds, h => by
    simp only [PyData.shown, wt]
    exact Nat.le_trans (listText_le _) (Nat.add_le_add_left (shown_leAll ds (by simpa only [fitD] using h)) _)
  | .tuple ds, h => by
    simp only [PyData.shown, wt]
    exact Nat.le_trans (tupleText_le _) (Nat.add_le_add_left (shown_leAll ds (by simpa only [fitD] using h)) _)
  | .dict es, h => by
    simp only [PyData.shown, wt]
    exact Nat.le_trans (dictText_le _) (Nat.add_le_add_left (shown_leKv es (by simpa only [fitD] using h)) _)
theorem shown_leAll : ∀ ds : List PyData, fitAll ds = true → sumT (PyData.shownAll ds) ≤ wtAll ds
  | [], _ => by
    simp only [PyData.shownAll, wtAll]
    exact Nat.le_refl 0
  | d :: ds, h => by
    simp only [fitAll, Bool.and_eq_true] at h
    simp only [PyData.shownAll, wtAll]
    rw [sumT_cons]
    have a := shown_le d h.1
    have b := shown_leAll ds h.2
    omega
theorem shown_leKv : ∀ es : List (PyData × PyData), fitKv es = true → sumT (PyData.shownKv es) ≤ wtKv es
  | [], _ => by
    simp only [PyData.shownKv, wtKv]
    exact Nat.le_refl 0
  | (k, v) :: es, h => by
    simp only [fitKv, Bool.and_eq_true] at h
    simp only [PyData.shownKv, wtKv]
    rw [sumT_cons, strLen_append, strLen_append]
    have a := shown_le k h.1.1
    have a2 := shown_le v h.1.2
    have b := shown_leKv es h.2
    have z : (Str.ofString ": ").length = 2 := by decide +kernel
    have z2 : (": " : Str).length = 2 := z
    omega
end
/-- data of weight at most W, at most n deep -/
structure Fit (W n : Nat) (d : PyData) : Prop where
  fit : fitD d = true
  wt : wt d ≤ W
  deep : d.depth ≤ n
theorem Fit.mono {W W2 n n2 : Nat} {d : PyData} (h : Fit W n d) (a : W ≤ W2) (b : n ≤ n2) : Fit W2 n2 d := ⟨h.fit, Nat.le_trans h.wt a, Nat.le_trans h.deep b⟩
/-- the text of a list of data can be asked for -/
theorem repr_of {K : PySem.W.Frag} {H : Hp} {Q : VK} {p : Addr} {ds : List PyData} {n : Nat} (dz : Dz K H (.ref p) (.list ds)) (f : Fit 10000000 n (.list ds)) (hn : n ≤ 100) (q : Q (.str (PyData.list ds).shown) H) : rRepr K [.ref p] H Q := by
  refine ⟨ds, dz, ?_, ?_, Nat.le_trans f.deep hn, q⟩
  · have := fit_show _ f.fit
    simpa only [PyData.showable] using this
  · have a := shown_le _ f.fit
    have b := f.wt
    rw [sizeLine_eq]
    omega
/-! ### what a value is judged to be -/
def allLetB (z : Str) : Bool := z.cps.toList.all letB
def nmD : PyData → Bool
  | .str z => nameB z
  | _ => false
def sgD : PyData → Bool
  | .str z => signsB z
  | _ => false
def strmD : PyData → Bool
  | .tuple [a, b] => nmD a && sgD b
  | _ => false
def kindD (least : Nat) : PyData → Bool
  | .tuple ds => decide (least ≤ ds.length) && decide (ds.length ≤ 3) && ds.all strmD
  | _ => false
/-- the names of a kind that is well formed -/
def nm1 : PyData → Str
  | .tuple (.str z :: _) => z
  | _ => Str.empty
def nmsD : PyData → List Str
  | .tuple ds => ds.map nm1
  | _ => []
def strsD (s t : PyData) : Bool := kindD 1 s && kindD 0 t && decide (nmsD s ++ nmsD t).Nodup
def tyD : PyData → String
  | .none => "NoneType"
  | .bool _ => "bool"
  | .int _ => "int"
  | .str _ => "str"
  | .list _ => "list"
  | .tuple _ => "tuple"
  | .dict _ => "dict"
theorem Dz.tyx {K : PySem.W.Frag} {H : Hp} {v : V} {d : PyData} (h : Dz K H v d) : TyX K H v (.type (tyD d)) := by
  cases h with
  | non => exact .base .non
  | bl b => exact .base (.bl b)
  | int i => exact .base (.int i)
  | str x => exact .base (.str x)
  | lst a b =>
    rcases a with a | ⟨o, its, n, hk, hc, _⟩
    · rcases a with a | ⟨o, a⟩
      · exact .base (.lst a)
      · exact .base (.frz a)
    · exact .kList hk hc
  | tup a b =>
    rcases a with a | ⟨o, its, n, hk, hc, _⟩
    · rcases a with a | ⟨o, a⟩
      · exact .base (.tup a)
      · exact .fTuple a
    · exact .kTuple hk hc
  | dic a b c => exact .base (.dK a)
def strD : PyData → Bool
  | .str _ => true
  | _ => false
def tupD : PyData → Bool
  | .tuple _ => true
  | _ => false
theorem kit_str {K : PySem.W.Frag} : ∀ d : PyData, PySem.W.kitOne K (.type (tyD d)) (.type "str") = some (strD d)
  | .none => kit_ty (a := "NoneType") (r := false) (by decide +kernel)
  | .bool _ => kit_ty (a := "bool") (r := false) (by decide +kernel)
  | .int _ => kit_ty (a := "int") (r := false) (by decide +kernel)
  | .str _ => kit_ty (a := "str") (r := true) (by decide +kernel)
  | .list _ => kit_ty (a := "list") (r := false) (by decide +kernel)
  | .tuple _ => kit_ty (a := "tuple") (r := false) (by decide +kernel)
  | .dict _ => kit_ty (a := "dict") (r := false) (by decide +kernel)
theorem kit_tup {K : PySem.W.Frag} : ∀ d : PyData, PySem.W.kitOne K (.type (tyD d)) (.type "tuple") = some (tupD d)
  | .none => kit_ty (a := "NoneType") (r := false) (by decide +kernel)
  | .bool _ => kit_ty (a := "bool") (r := false) (by decide +kernel)
  | .int _ => kit_ty (a := "int") (r := false) (by decide +kernel)
  | .str _ => kit_ty (a := "str") (r := false) (by decide +kernel)
  | .list _ => kit_ty (a := "list") (r := false) (by decide +kernel)
  | .tuple _ => kit_ty (a := "tuple") (r := true) (by decide +kernel)
  | .dict _ => kit_ty (a := "dict") (r := false) (by decide +kernel)
/-- isinstance(v, str) -/
theorem is_str {K : PySem.W.Frag} {H : Hp} {Q : VK} {v : V} {d : PyData} (h : Dz K H v d) (y : ∀ z, d = .str z → v = .str z → Q (.bl true) H) (n : (∀ z, d ≠ .str z) → Q (.bl false) H) : rIs K [v, .ty "str"] H Q := by
  refine ⟨_, _, h.tyx, kit_str d, ?_⟩
  cases d with
  | str z =>
    cases h
    exact y z rfl rfl
  | _ => exact n fun z e => nomatch e
/-- isinstance(v, tuple) -/
theorem is_tup {K : PySem.W.Frag} {H : Hp} {Q : VK} {v : V} {d : PyData} (h : Dz K H v d) (y : ∀ ds a xs, d = .tuple ds → v = .ref a → SqT K H a xs → DzAll K H xs ds → Q (.bl true) H) (n : (∀ ds, d ≠ .tuple ds) → Q (.bl false) H) : rIs K [v, .ty "tuple"] H Q := by
  refine ⟨_, _, h.tyx, kit_tup d, ?_⟩
  cases d with
  | tuple ds =>
    cases h with
    | tup a b => exact y ds _ _ rfl rfl a b
  | _ => exact n fun z e => nomatch e
end Z
namespace Z
open PySem PySem.Spec PyProof.Rows L2 G
/-- more of the builtins' names are free -/
structure Txt2 (mg : Str → Option Value) : Prop extends Txt mg where
  isinstance : mg "isinstance" = none
  str : mg "str" = none
  all : mg "all" = none
  zip : mg "zip" = none
  set : mg "set" = none
  max : mg "max" = none
  min : mg "min" = none
  abs : mg "abs" = none
  dict : mg "dict" = none
  repr : mg "repr" = none
/-- a number of the program's own -/
def Num (mg : Str → Option Value) (x : Str) (n : Int) : Prop := ∃ t, mg x = some (.int n t)
section
variable {P : Program} {w : World} {K : PySem.W.Frag} {mg : Str → Option Value} {base : Heap}
theorem one_lt (c d : Nat) : decide ((⟨#[c]⟩ : Str).cps.toList < (⟨#[d]⟩ : Str).cps.toList) = decide (c < d) := by
  have e : ((⟨#[c]⟩ : Str).cps.toList < (⟨#[d]⟩ : Str).cps.toList) ↔ c < d := by
    show ([c] < [d]) ↔ c < d
    rw [List.cons_lt_cons_iff]
    simp
  by_cases h : c < d
  · rw [decide_eq_true h, decide_eq_true (e.mpr h)]
  · rw [decide_eq_false h, decide_eq_false fun z => h (e.mp z)]
section
variable {H : Hp} {Q : VK} {a b : Str}
theorem a_ltS (q : Q (.bl (decide (a.cps.toList < b.cps.toList))) H) : Z.rLt (.str a) (.str b) H Q := q
theorem a_leS (q : Q (.bl (!decide (b.cps.toList < a.cps.toList))) H) : Z.rLe (.str a) (.str b) H Q := q
end
theorem str_a : (Str.ofString "a") = ⟨#[97]⟩ := by decide +kernel
theorem str_z : (Str.ofString "z") = ⟨#[122]⟩ := by decide +kernel
theorem take_sign {z : Str} {i c : Nat} (h : z.cps[i]? = some c) : z.cps.toList.take (i + 1) = z.cps.toList.take i ++ [c] := by
  rw [List.take_add_one, Array.getElem?_toList, h]
  rfl
theorem full_signs (z : Str) : z.cps.toList.take z.cps.size = z.cps.toList := by
  have : z.cps.size = z.cps.toList.length := Array.length_toList.symm
  rw [this, List.take_length]
/-- are all its signs letters? -/
def spLetters : Sp := fun vs H Q _ => ∃ z : Str, vs = [.str z] ∧ z.length ≤ 100000 ∧ ∀ H1, Same H H1 → Q (.bl (allLetB z)) H1
abbrev sare_letters : Stmt := topS 12
theorem scare_letters : FnScope ["text", "letter"] ["text"] (defScope sare_letters) := ⟨rfl, rfl, rfl, by decide +kernel, rfl, by decide +kernel, by decide +kernel⟩
theorem ok_are_letters {f : Addr} {fd : FuncData} (T : Txt2 mg) (D : Def K mg "are_letters" sare_letters ["text"] f fd) : FnOk P w K mg base CX0 1 f fd ["text"] spLetters := by
  refine D.F.ok scare_letters (fun vs H Q E h => ?_) (fun cdv A outer s H vs Q E hr h => ?_)
  · obtain ⟨z, rfl, _⟩ := h
    rfl
  · obtain ⟨z, rfl, small, k⟩ := h
    have zl : z.cps.size ≤ 100000 := small
    refine ⟨_, (pss_one (ps_ret (pe_callB (Z.k_all (K := K) rfl) (by rfl) T.all (by decide +kernel) (pa_cons (pe_lc (own := [("letter", 1)]) (by rfl) scare_letters.nd (pi_str (pv 0)) (blkOk_by (own := [("letter", 1)]) (N := ["text", "letter"]) (sc := defScope sare_letters) (by decide +kernel))
   (fun _ _ _ _ _ => (pg_name (i := 1) scare_letters.nd rfl (by first | exact Or.inl rfl | exact Or.inr rfl))) (fun _ _ _ _ _ => pts_nil) (fun _ _ _ _ _ => (pe_chain Z.op_le Z.op_le pe_str (pv 1) pe_str))) pa_nil)))), ?_⟩
    walk_at "st"
    refine comp walkS (Same H) (fun i acc H2 => acc = (z.cps.toList.take i).map fun c => V.bl (letB c)) (Same.refl H) (fun L o H2 e m => same_upd m e) (fun _ _ _ _ _ _ _ h => h) rfl (fun _ _ _ _ _ => trivial) ?_ ?_
    · rintro L i acc x H2 fresh hi ⟨c, hc, rfl⟩ len m at_ rfl
      refine turn1 rfl ?_
      have fin : ∀ b : Bool, letB c = b → Put (Same H) (fun i acc H2 => acc = (z.cps.toList.take i).map fun c => V.bl (letB c)) L i (.bl b) H2 := by
        intro b e
        refine put fresh (fun L o H2 e m => same_upd m e) (fun _ _ _ _ _ _ _ h => h) at_ (by omega) len m ?_
        rw [take_sign hc, List.map_append, ← e]
        rfl
      walk_at "st"
      refine a_leS ?_
      rw [str_a, one_lt]
      by_cases c1 : c < 97
      · rw [decide_eq_true c1]
        refine s_bl (P := _) ?_
        refine iteF (fin false ?_)
        unfold letB
        rw [decide_eq_false (by omega), Bool.false_and]
      · rw [decide_eq_false c1]
        refine s_bl (P := _) ?_
        refine iteT ?_
        walk_at "st"
        refine a_leS ?_
        rw [str_z, one_lt]
        refine fin _ ?_
        unfold letB
        rw [decide_eq_true (show 97 ≤ c by omega), Bool.true_and]
        by_cases c2 : 122 < c
        · rw [decide_eq_true c2, decide_eq_false (by omega)]
          rfl
        · rw [decide_eq_false c2, decide_eq_true (by omega)]
          rfl
    · rintro L acc H2 fresh len m at_ rfl
      rw [full_signs] at at_
      walk_at "st"
      refine ⟨z.cps.toList.map letB, SqL.of ?_, ?_⟩
      · rw [List.map_map]
        exact at_
      · have e : (z.cps.toList.map letB).all id = allLetB z := by
          rw [List.all_map]
          rfl
        rw [e]
        exact k H2 m
end
end Z
namespace Z
open PySem PySem.Spec PyProof.Rows L2 G
section
variable {P : Program} {w : World} {K : PySem.W.Frag} {mg : Str → Option Value} {base : Heap}
/-- if it is a text, then not a huge one -/
def Len (d : PyData) : Prop := ∀ z, d = .str z → z.length ≤ 1000000
theorem Len.lt {z : Str} (h : Len (.str z)) : z.length ≤ sizeLine := by
  have := h z rfl
  rw [sizeLine_eq]
  omega
/-- a text of so many letters -/
def lawLet (lo hi : Int) : PyData → Bool
  | .str z => decide (lo ≤ (z.length : Nat)) && decide (((z.length : Nat) : Int) ≤ hi) && allLetB z
  | _ => false
theorem lawLet_no {lo hi : Int} {d : PyData} (h : ∀ z, d ≠ .str z) : lawLet lo hi d = false := by
  cases d with
  | str z => exact absurd rfl (h z)
  | _ => rfl
def spLawLetters (K : PySem.W.Frag) : Sp := fun vs H Q _ => ∃ v d lo hi, vs = [v, .int lo, .int hi] ∧ Dz K H v d ∧ Len d ∧ hi ≤ 100000 ∧ ∀ H1, Same H H1 → Q (.bl (lawLet lo hi d)) H1
def abc : Str := Str.ofString "abcdefghijklmnopqrstuvwxyz"
theorem abc_is : abc.cps.toList = List.range' 97 26 := by decide +kernel
theorem in_abc (c : Nat) : decide ((⟨#[c]⟩ : Str) ∈ abc.cps.toList.map fun c => (⟨#[c]⟩ : Str)) = letB c := by
  have e : (⟨#[c]⟩ : Str) ∈ abc.cps.toList.map (fun c => (⟨#[c]⟩ : Str)) ↔ (97 ≤ c ∧ c ≤ 122) := by
    rw [List.mem_map, abc_is]
    constructor
    · rintro ⟨d, hd, e⟩
      have e2 : d = c := by
        have := congrArg (fun s : Str => s.cps.toList) e
        simpa using this
      rw [e2, List.mem_range'_1] at hd
      omega
    · intro h
      refine ⟨c, ?_, rfl⟩
      rw [List.mem_range'_1]
      omega
  unfold letB
  by_cases c1 : 97 ≤ c
  · by_cases c2 : c ≤ 122
    · rw [decide_eq_true (e.mpr ⟨c1, c2⟩), decide_eq_true c1, decide_eq_true c2]
      rfl
    · rw [decide_eq_false fun z => c2 (e.mp z).2, decide_eq_false c2, Bool.and_false]
  · rw [decide_eq_false fun z => c1 (e.mp z).1, decide_eq_false c1, Bool.false_and]
theorem signsV_is (z : Str) : signsV z = oneOf (z.cps.toList.map fun c => (⟨#[c]⟩ : Str)) := by
  unfold signsV oneOf
  rw [List.map_map]
  rfl
abbrev s_law_is_letters : Stmt := topS 28
theorem sc_law_is_letters : FnScope ["value", "least", "most", "letter"] ["value", "least", "most"] (defScope s_law_is_letters) := ⟨rfl, rfl, rfl, by decide +kernel, rfl, by decide +kernel, by decide +kernel⟩
theorem ok_law_is_letters {f : Addr} {fd : FuncData} (T : Txt2 mg) (D : Def K mg "_law_is_letters" s_law_is_letters ["value", "least", "most"] f fd) : FnOk P w K mg base CX0 1 f fd ["value", "least", "most"] (spLawLetters K) := by
  refine D.F.ok sc_law_is_letters (fun vs H Q E h => ?_) (fun cdv A outer s H vs Q E hr h => ?_)
  · obtain ⟨v, d, lo, hi, rfl, _⟩ := h
    rfl
  · obtain ⟨v, d, lo, hi, rfl, dz, ln, hh, k⟩ := h
    refine ⟨_, (pss_cons (ps_if (PW.pt (pw_or (pt_not (pt_val (pe_callB (Z.k_is (K := K)) (by rfl) T.isinstance (by decide +kernel) (pa_cons (pv 0) (pa_cons (pe_bltn (v := .ty "str") (by rfl) T.str (by decide +kernel) rfl) pa_nil))))) (pw_or (pt_cmpR Z.op_lt (pe_callB (Z.k_len (K := K)) (by rfl) T.len (by decide +kernel) (pa_cons (pv 0) pa_nil)) (pv 1) (nomark _)) (pw_or1 (pt_cmpR Z.op_gt (pe_callB (Z.k_len (K := K)) (by rfl) T.len (by decide +kernel) (pa_cons (pv 0) pa_nil)) (pv 2) (nomark _))))))
  (pss_one (ps_ret pe_bl))
  pss_nil)
 (pss_cons (ps_for PassesOwn.never rfl (pi_str (pv 0)) (pg_name (i := 3) sc_law_is_letters.nd rfl (by first | exact Or.inl rfl | exact Or.inr rfl))
  (pss_one (ps_if (pt_cmpR (Z.k_notIn (K := K)) (pv 3) (pe_callTy (Z.k_list (K := K) rfl) (by rfl) T.list (by decide +kernel) (pa_cons pe_str pa_nil)) (by rfl))
  (pss_one (ps_ret pe_bl))
  pss_nil)))
 (pss_one (ps_ret pe_bl)))), ?_⟩
    walk_at "st"
    refine is_str dz ?_ (fun no => ?_)
    · rintro z rfl rfl
      walk_at "st"
      refine iteF ?_
      walk_at "st"
      refine ⟨ln.lt, ?_⟩
      walk_at "st"
      by_cases c1 : ((z.length : Nat) : Int) < lo
      · rw [decide_eq_true c1]
        refine iteT (iteT ?_)
        walk_at "st"
        have e : lawLet lo hi (.str z) = false := by
          show (_ && _ && _) = false
          rw [decide_eq_false (show ¬ lo ≤ ((z.length : Nat) : Int) by omega)]
          rfl
        rw [← e]
        exact k _ (Same.refl H)
      · rw [decide_eq_false c1]
        refine iteF ?_
        walk_at "st"
        refine ⟨ln.lt, ?_⟩
        walk_at "st"
        by_cases c2 : hi < ((z.length : Nat) : Int)
        · rw [decide_eq_true c2]
          refine iteT ?_
          walk_at "st"
          have e : lawLet lo hi (.str z) = false := by
            show (_ && _ && _) = false
            rw [decide_eq_false (show ¬ ((z.length : Nat) : Int) ≤ hi by omega), Bool.and_false]
            rfl
          rw [← e]
          exact k _ (Same.refl H)
        · rw [decide_eq_false c2]
          refine iteF ?_
          walk_at "st"
          have len : z.cps.size = z.length := rfl
          have e : lawLet lo hi (.str z) = allLetB z := by
            show (_ && _ && _) = _
            rw [decide_eq_true (show lo ≤ ((z.length : Nat) : Int) by omega), decide_eq_true (show ((z.length : Nat) : Int) ≤ hi by omega)]
            rfl
          rw [e] at k
          refine loop walkS (fun i σ2 H2 => (∃ x, σ2 = [some (.str z), some (.int lo), some (.int hi), x]) ∧ Same H H2 ∧ ∀ c ∈ z.cps.toList.take i, letB c = true) ⟨⟨_, rfl⟩, Same.refl H, fun c hc => by simp at hc⟩ (fun _ _ _ _ => trivial) ?_ ?_
          · rintro i x σ2 H2 hi ⟨c, hc, rfl⟩ ⟨⟨x0, rfl⟩, m, all⟩
            walk_at "st"
            refine ⟨by decide +kernel, fun p np => ?_⟩
            have m2 : Same H (upd H2 p (.lst (signsV abc))) := same_new m np
            refine ⟨p, signsV abc, rfl, .inl (SqL.of upd_same), rfl, ?_, ?_⟩
            · rw [signsV_is]
              exact flat_strs _
            · rw [signsV_is, inV_str, in_abc]
              walk_at "st"
              cases hb : letB c with
              | true =>
                refine iteF ?_
                walk_at "st"
                refine ⟨⟨_, rfl⟩, m2, fun d hd => ?_⟩
                rw [take_sign hc] at hd
                rcases List.mem_append.mp hd with hd | hd
                · exact all d hd
                · rw [List.mem_singleton.mp hd]
                  exact hb
              | false =>
                refine iteT ?_
                walk_at "st"
                have e2 : allLetB z = false := by
                  unfold allLetB
                  rw [List.all_eq_false]
                  refine ⟨c, ?_, by rw [hb]; exact Bool.false_ne_true⟩
                  rw [Array.mem_toList_iff]
                  exact Array.mem_of_getElem? hc
                rw [← e2]
                exact k _ m2
          · rintro σ2 H2 ⟨_, m, all⟩
            walk_at "st"
            rw [full_signs] at all
            have e2 : allLetB z = true := List.all_eq_true.mpr all
            rw [← e2]
            exact k _ m
    · walk_at "st"
      refine iteT (iteT ?_)
      walk_at "st"
      rw [← lawLet_no no]
      exact k _ (Same.refl H)
end
end Z
namespace Z
open PySem PySem.Spec PyProof.Rows L2 G
section
variable {P : Program} {w : World} {K : PySem.W.Frag} {mg : Str → Option Value} {base : Heap}
theorem lawLet_word {n : Nat} {z : Str} : lawLet 1 (n : Nat) (.str z) = wordB n z := by
  show (decide ((1 : Int) ≤ ((z.length : Nat) : Int)) && decide (((z.length : Nat) : Int) ≤ (n : Nat)) && allLetB z) = _
  unfold wordB allLetB
  have l : z.length = z.cps.size := rfl
  rw [l]
  have e1 : decide ((1 : Int) ≤ ((z.cps.size : Nat) : Int)) = decide (0 < z.cps.size) := by
    by_cases c : 0 < z.cps.size
    · rw [decide_eq_true c, decide_eq_true (by omega)]
    · rw [decide_eq_false c, decide_eq_false (by omega)]
  have e2 : decide (((z.cps.size : Nat) : Int) ≤ (n : Nat)) = decide (z.cps.size ≤ n) := by
    by_cases c : z.cps.size ≤ n
    · rw [decide_eq_true c, decide_eq_true (by omega)]
    · rw [decide_eq_false c, decide_eq_false (by omega)]
  rw [e1, e2]
theorem nmD_no {d : PyData} (h : ∀ z, d ≠ .str z) : nmD d = false := by
  cases d with
  | str z => exact absurd rfl (h z)
  | _ => rfl
theorem sgD_no {d : PyData} (h : ∀ z, d ≠ .str z) : sgD d = false := by
  cases d with
  | str z => exact absurd rfl (h z)
  | _ => rfl
/-- the law's own: is it a name? signs? -/
def spJudge (K : PySem.W.Frag) (f : PyData → Bool) : Sp := fun vs H Q _ => ∃ v d, vs = [v] ∧ Dz K H v d ∧ Len d ∧ ∀ H1, Same H H1 → Q (.bl (f d)) H1
abbrev s_law_is_name : Stmt := topS 29
theorem sc_law_is_name : FnScope ["value"] ["value"] (defScope s_law_is_name) := ⟨rfl, rfl, rfl, by decide +kernel, rfl, by decide +kernel, by decide +kernel⟩
theorem ok_law_is_name {f fl : Addr} {fd fdl : FuncData} (T : Txt2 mg) (D : Def K mg "_law_is_name" s_law_is_name ["value"] f fd) (D_law_is_letters : Def K mg "_law_is_letters" s_law_is_letters ["value", "least", "most"] fl fdl) : FnOk P w K mg base CX0 2 f fd ["value"] (spJudge K nmD) := by
  have G_law_is_letters : FnOk P w K mg base CX0 1 fl fdl ["value", "least", "most"] (spLawLetters K) := ok_law_is_letters T D_law_is_letters
  refine D.F.ok sc_law_is_name (fun vs H Q E h => ?_) (fun cdv A outer s H vs Q E hr h => ?_)
  · obtain ⟨v, d, rfl, _⟩ := h
    rfl
  · obtain ⟨v, d, rfl, dz, ln, k⟩ := h
    have hu := hr.units
    refine ⟨_, (pss_one (ps_ret (pe_and (pe_call G_law_is_letters (hr.mono (by decide)) (by rfl) D_law_is_letters.g D_law_is_letters.F.kp D_law_is_letters.b .nil pass0 (pa_cons (pv 0) (pa_cons pe_int (pa_cons pe_int pa_nil)))) (pe_one (pe_cmpR (Z.k_ne (K := K) hu) (pv 0) pe_str (nomark _)))))), ?_⟩
    walk_at "st"
    refine ⟨v, d, 1, 8, rfl, dz, ln, by decide, fun H1 m => ?_⟩
    refine s_bl (P := _) ?_
    cases e : lawLet 1 8 d with
    | false =>
      refine iteF ?_
      have e2 : nmD d = false := by
        cases d with
        | str z =>
          rw [show (8 : Int) = ((8 : Nat) : Int) from rfl, lawLet_word] at e
          show nameB z = false
          unfold nameB
          rw [e]
          rfl
        | _ => rfl
      rw [← e2]
      exact k H1 m
    | true =>
      refine iteT ?_
      cases d with
      | str z =>
        cases dz
        rw [show (8 : Int) = ((8 : Nat) : Int) from rfl, lawLet_word] at e
        walk_at "st"
        have e2 : (!decide (z = Str.ofString "end")) = nmD (.str z) := by
          show _ = nameB z
          unfold nameB
          rw [e]
          rfl
        rw [e2]
        exact k H1 m
      | _ => exact Bool.noConfusion e
abbrev sis_name : Stmt := topS 10
theorem scis_name : FnScope ["value"] ["value"] (defScope sis_name) := ⟨rfl, rfl, rfl, by decide +kernel, rfl, by decide +kernel, by decide +kernel⟩
theorem ok_is_name {f fl : Addr} {fd fdl : FuncData} (T : Txt2 mg) (N : Num mg "MAX_NAME" 8) (D : Def K mg "is_name" sis_name ["value"] f fd) (Dare_letters : Def K mg "are_letters" sare_letters ["text"] fl fdl) : FnOk P w K mg base CX0 2 f fd ["value"] (spJudge K nmD) := by
  have Gare_letters : FnOk P w K mg base CX0 1 fl fdl ["text"] spLetters := ok_are_letters T Dare_letters
  refine D.F.ok scis_name (fun vs H Q E h => ?_) (fun cdv A outer s H vs Q E hr h => ?_)
  · obtain ⟨v, d, rfl, _⟩ := h
    rfl
  · obtain ⟨v, d, rfl, dz, ln, k⟩ := h
    have hu := hr.units
    obtain ⟨t8, c_MAX_NAME⟩ := N
    refine ⟨_, (pss_cons (ps_if (PW.pt (pw_or (pt_not (pt_val (pe_callB (Z.k_is (K := K)) (by rfl) T.isinstance (by decide +kernel) (pa_cons (pv 0) (pa_cons (pe_bltn (v := .ty "str") (by rfl) T.str (by decide +kernel) rfl) pa_nil))))) (pw_or1 (pt_not (pt_chain Z.op_le Z.op_le pe_int (pe_callB (Z.k_len (K := K)) (by rfl) T.len (by decide +kernel) (pa_cons (pv 0) pa_nil)) (pe_glob (v := .int 8) (by rfl) c_MAX_NAME ⟨_, rfl⟩))))))
  (pss_one (ps_ret pe_bl))
  pss_nil)
 (pss_one (ps_ret (pe_and (pe_call Gare_letters (hr.mono (by decide)) (by rfl) Dare_letters.g Dare_letters.F.kp Dare_letters.b .nil pass0 (pa_cons (pv 0) pa_nil)) (pe_one (pe_cmpR (Z.k_ne (K := K) hu) (pv 0) pe_str (nomark _))))))), ?_⟩
    walk_at "st"
    refine is_str dz ?_ (fun no => ?_)
    · rintro z rfl rfl
      have l : z.length = z.cps.size := rfl
      walk_at "st"
      refine iteF ?_
      walk_at "st"
      refine ⟨ln.lt, ?_⟩
      walk_at "st"
      by_cases c1 : (1 : Int) ≤ ((z.length : Nat) : Int)
      · rw [decide_eq_true c1]
        refine iteT ?_
        walk_at "st"
        by_cases c2 : ((z.length : Nat) : Int) ≤ 8
        · rw [decide_eq_true c2]
          refine iteF ?_
          walk_at "st"
          refine ⟨z, rfl, by omega, fun H1 m => ?_⟩
          refine s_bl (P := _) ?_
          have e : wordB 8 z = allLetB z := by
            unfold wordB allLetB
            rw [decide_eq_true (show 0 < z.cps.size by omega), decide_eq_true (show z.cps.size ≤ 8 by omega)]
            rfl
          have e2 : nmD (.str z) = (allLetB z && !decide (z = Str.ofString "end")) := by
            show nameB z = _
            unfold nameB
            rw [e]
          rw [e2] at k
          cases b : allLetB z with
          | false =>
            refine iteF ?_
            rw [b] at k
            exact k H1 m
          | true =>
            refine iteT ?_
            rw [b, Bool.true_and] at k
            walk_at "st"
            exact k H1 m
        · rw [decide_eq_false c2]
          refine iteT ?_
          walk_at "st"
          have e : nmD (.str z) = false := by
            show nameB z = _
            unfold nameB wordB
            rw [decide_eq_false (show ¬ z.cps.size ≤ 8 by omega), Bool.and_false]
            rfl
          rw [← e]
          exact k H (Same.refl H)
      · rw [decide_eq_false c1]
        refine iteF ?_
        walk_at "st"
        refine iteT ?_
        walk_at "st"
        have e : nmD (.str z) = false := by
          show nameB z = _
          unfold nameB wordB
          rw [decide_eq_false (show ¬ 0 < z.cps.size by omega)]
          rfl
        rw [← e]
        exact k H (Same.refl H)
    · walk_at "st"
      refine iteT (iteT ?_)
      walk_at "st"
      rw [← nmD_no no]
      exact k H (Same.refl H)
end
end Z
namespace Z
open PySem PySem.Spec PyProof.Rows L2 G
section
variable {P : Program} {w : World} {K : PySem.W.Frag} {mg : Str → Option Value} {base : Heap}
theorem s_zip {σ : L2.St} {H : Hp} {ta : TA} {R : It → Hp → Prop} (q : ta σ H fun vs H1 => ∃ x y : Str, vs = [.str x, .str y] ∧ R (ItzS x y) H1) : iZipS ta σ H R := q
theorem s_texts {x y : Str} {P : Str → Str → Prop} (q : P x y) : ∃ a b : Str, [V.str x, V.str y] = [.str a, .str b] ∧ P a b := ⟨x, y, rfl, q⟩
theorem cutS_from (z : Str) (i : Nat) : (cutS z (some (i : Nat)) none).cps.toList = z.cps.toList.drop i := by
  unfold cutS
  rw [HT.sIx_none, HT.sIx_nat]
  show ((z.cps.toList.drop (min i z.length)).take (z.length - min i z.length)) = _
  have l : z.cps.toList.length = z.length := Array.length_toList
  by_cases c : i ≤ z.length
  · rw [Nat.min_eq_left c]
    exact List.take_of_length_le (by rw [List.length_drop]; omega)
  · rw [Nat.min_eq_right (by omega), List.drop_of_length_le (by omega), List.drop_of_length_le (by omega), List.take_nil]
theorem cutS_mid (z : Str) (i j : Nat) : (cutS z (some (i : Nat)) (some (j : Nat))).cps.toList = (z.cps.toList.drop i).take (j - i) := by
  unfold cutS
  rw [HT.sIx_nat, HT.sIx_nat]
  show ((z.cps.toList.drop (min i z.length)).take (min j z.length - min i z.length)) = _
  have l : z.cps.toList.length = z.length := Array.length_toList
  by_cases c : i ≤ z.length
  · rw [Nat.min_eq_left c, List.take_eq_take_iff, List.length_drop]
    omega
  · rw [Nat.min_eq_right (show z.length ≤ i by omega), List.drop_of_length_le (show z.cps.toList.length ≤ z.length by omega), List.drop_of_length_le (show z.cps.toList.length ≤ i by omega), List.take_nil, List.take_nil]
theorem walkZ {x y : Str} : Walk (ItzS x y) (min x.cps.size y.cps.size) (fun _ => True) (fun i H v H1 => ∃ T c d, v = .ref T ∧ H T = none ∧ H1 = upd H T (.tup [.str ⟨#[c]⟩, .str ⟨#[d]⟩]) ∧ x.cps[i]? = some c ∧ y.cps[i]? = some d) :=
  ⟨fun i _ hi _ => ⟨by omega, by omega⟩, fun _ _ => ⟨by omega, by omega, by omega⟩, fun _ _ _ _ _ _ q => q⟩
/-- a comprehension over two texts -/
theorem compZ {x y : Str} {g : TG} {tt : TT} {te : TE} {vs : List Nat} {σ : L2.St} {H : Hp} {Q : VK} (M : Hp → Prop) (Iv : Nat → List V → Prop) (m0 : M H) (mu : ∀ L o H2, H L = none → M H2 → M (upd H2 L o)) (mn : ∀ T o H2, H2 T = none → M H2 → M (upd H2 T o)) (i0 : Iv 0 [])
    (hs : ∀ L i acc T c d H2, H L = none → x.cps[i]? = some c → y.cps[i]? = some d → acc.length ≤ i → M H2 → H2 L = some (.lst acc) → Iv i acc → H2 T = some (.tup [.str ⟨#[c]⟩, .str ⟨#[d]⟩]) → Turns M (fun i acc _ => Iv i acc) L i g tt te vs σ (.ref T) H2)
    (done : ∀ L acc H2, H L = none → M H2 → H2 L = some (.lst acc) → Iv (min x.cps.size y.cps.size) acc → Q (.ref L) H2) : CompOk (ItzS x y) g tt te vs σ H Q := by
  intro L fresh
  refine lc_it walkZ (At M (fun i acc _ => Iv i acc) L) ⟨[], mu _ _ _ fresh m0, upd_same, Nat.le_refl _, i0⟩ (fun _ _ _ _ => trivial) ?_ ?_
  · rintro i v H2 Hy hi ⟨acc, m, at_, len, iv⟩ ⟨T, c, d, rfl, nT, rfl, hc, hd⟩
    refine hs L i acc T c d _ fresh hc hd len (mn _ _ _ nT m) ?_ iv upd_same
    rw [upd_ne (ne_of_none at_ nT)]
    exact at_
  · rintro H2 ⟨acc, m, at_, len, iv⟩
    exact done L acc H2 fresh m at_ iv
/-- each is less than the next one -/
def nexts (l : List Nat) : List (Nat × Nat) := l.zip (l.drop 1)
theorem upB_is : ∀ l : List Nat, upB l = (nexts l).all fun p => decide (p.1 < p.2)
  | [] => rfl
  | [_] => rfl
  | c :: d :: r => by
    have ih := upB_is (d :: r)
    show (decide (c < d) && upB (d :: r)) = _
    rw [ih]
    rfl
theorem nexts_len (l : List Nat) : (nexts l).length = min l.length (l.length - 1) := by
  unfold nexts
  rw [List.length_zip, List.length_drop]
theorem nexts_at {l : List Nat} {i c d : Nat} (hc : l[i]? = some c) (hd : (l.drop 1)[i]? = some d) : (nexts l).take (i + 1) = (nexts l).take i ++ [(c, d)] := by
  have e : (nexts l)[i]? = some (c, d) := by
    unfold nexts
    rw [List.getElem?_zip_eq_some]
    exact ⟨hc, hd⟩
  rw [List.take_add_one, e]
  rfl
abbrev sis_signs : Stmt := topS 11
theorem scis_signs : FnScope ["value", "low", "high"] ["value"] (defScope sis_signs) := ⟨rfl, rfl, rfl, by decide +kernel, rfl, by decide +kernel, by decide +kernel⟩
theorem ok_is_signs {f fl : Addr} {fd fdl : FuncData} (T : Txt2 mg) (N : Num mg "MAX_SIGNS" 4) (D : Def K mg "is_signs" sis_signs ["value"] f fd) (Dare_letters : Def K mg "are_letters" sare_letters ["text"] fl fdl) : FnOk P w K mg base CX0 2 f fd ["value"] (spJudge K sgD) := by
  have Gare_letters : FnOk P w K mg base CX0 1 fl fdl ["text"] spLetters := ok_are_letters T Dare_letters
  refine D.F.ok scis_signs (fun vs H Q E h => ?_) (fun cdv A outer s H vs Q E hr h => ?_)
  · obtain ⟨v, d, rfl, _⟩ := h
    rfl
  · obtain ⟨v, d, rfl, dz, ln, k⟩ := h
    have hu := hr.units
    obtain ⟨t4, c_MAX_SIGNS⟩ := N
    refine ⟨_, (pss_cons (ps_if (PW.pt (pw_or (pt_not (pt_val (pe_callB (Z.k_is (K := K)) (by rfl) T.isinstance (by decide +kernel) (pa_cons (pv 0) (pa_cons (pe_bltn (v := .ty "str") (by rfl) T.str (by decide +kernel) rfl) pa_nil))))) (pw_or1 (pt_not (pt_chain Z.op_le Z.op_le pe_int (pe_callB (Z.k_len (K := K)) (by rfl) T.len (by decide +kernel) (pa_cons (pv 0) pa_nil)) (pe_glob (v := .int 4) (by rfl) c_MAX_SIGNS ⟨_, rfl⟩))))))
  (pss_one (ps_ret pe_bl))
  pss_nil)
 (pss_one (ps_ret (pe_and (pe_call Gare_letters (hr.mono (by decide)) (by rfl) Dare_letters.g Dare_letters.F.kp Dare_letters.b .nil pass0 (pa_cons (pv 0) pa_nil)) (pe_one (pe_callB (Z.k_all (K := K) rfl) (by rfl) T.all (by decide +kernel) (pa_cons (pe_lc (own := [("low", 1), ("high", 2)]) (by rfl) scis_signs.nd (Z.pi_zipS (by rfl) T.zip (pa_cons (pv 0) (pa_cons (pe_slice (Z.k_cut (K := K)) (pv 0) (po_some pe_int) po_none) pa_nil))) (blkOk_by (own := [("low", 1), ("high", 2)]) (N := ["value", "low", "high"]) (sc := defScope sis_signs) (by decide +kernel))
   (fun _ _ _ _ _ => (Z.k_tup (K := K) (n := 2) rfl (pgs_cons (pg_name (i := 1) scis_signs.nd rfl (by first | exact Or.inl rfl | exact Or.inr rfl)) (pgs_cons (pg_name (i := 2) scis_signs.nd rfl (by first | exact Or.inl rfl | exact Or.inr rfl)) pgs_nil)))) (fun _ _ _ _ _ => pts_nil) (fun _ _ _ _ _ => (pe_cmpR Z.op_lt (pv 1) (pv 2) (nomark _)))) pa_nil))))))), ?_⟩
    walk_at "st"
    refine is_str dz ?_ (fun no => ?_)
    · rintro z rfl rfl
      have l : z.length = z.cps.size := rfl
      walk_at "st"
      refine iteF ?_
      walk_at "st"
      refine ⟨ln.lt, ?_⟩
      walk_at "st"
      by_cases c1 : (1 : Int) ≤ ((z.length : Nat) : Int)
      · rw [decide_eq_true c1]
        refine iteT ?_
        walk_at "st"
        by_cases c2 : ((z.length : Nat) : Int) ≤ 4
        · rw [decide_eq_true c2]
          refine iteF ?_
          walk_at "st"
          refine ⟨z, rfl, by omega, fun H1 m => ?_⟩
          refine s_bl (P := _) ?_
          have e : wordB 4 z = allLetB z := by
            unfold wordB allLetB
            rw [decide_eq_true (show 0 < z.cps.size by omega), decide_eq_true (show z.cps.size ≤ 4 by omega)]
            rfl
          have e2 : sgD (.str z) = (allLetB z && upB z.cps.toList) := by
            show signsB z = _
            unfold signsB
            rw [e]
          rw [e2] at k
          cases b : allLetB z with
          | false =>
            refine iteF ?_
            rw [b] at k
            exact k H1 m
          | true =>
            refine iteT ?_
            rw [b, Bool.true_and] at k
            walk_at "st"
            refine s_zip ?_
            walk_at "st"
            refine ⟨ln.lt, ?_⟩
            walk_at "st"
            refine s_texts (P := _) ?_
            have cut := cutS_from z 1
            have cl : (cutS z (some ((1 : Nat) : Int)) none).cps.size = z.cps.size - 1 := by
              rw [← Array.length_toList, cut, List.length_drop, Array.length_toList]
            refine compZ (Same H) (fun i acc => acc = ((nexts z.cps.toList).take i).map fun p => V.bl (decide (p.1 < p.2))) m (fun L o H2 e m2 => same_upd m2 (m.free e)) (fun T o H2 e m2 => same_new m2 e) rfl ?_ ?_
            · rintro L i acc T c d H2 fresh hc hd len m2 at_ rfl hT
              refine ⟨T, [.str ⟨#[c]⟩, .str ⟨#[d]⟩], rfl, SqT.of hT, rfl, ?_⟩
              have lt : i < z.cps.size := (Array.getElem?_eq_some_iff.mp hc).1
              have hd2 : (z.cps.toList.drop 1)[i]? = some d := by
                rw [← cut, Array.getElem?_toList]
                exact hd
              walk_at "st"
              refine ⟨rfl, ?_⟩
              walk_at "st"
              refine iteT ?_
              walk_at "st"
              refine a_ltS ?_
              rw [one_lt]
              refine put fresh (fun L o H2 e m2 => same_upd m2 (m.free e)) (fun _ _ _ _ _ _ _ h => h) at_ (by omega) len m2 ?_
              rw [nexts_at (by rw [Array.getElem?_toList]; exact hc) hd2, List.map_append]
              rfl
            · rintro L acc H2 fresh m2 at_ rfl
              have full : (nexts z.cps.toList).take (min z.cps.size (cutS z (some ((1 : Nat) : Int)) none).cps.size) = nexts z.cps.toList := by
                rw [cl]
                refine List.take_of_length_le ?_
                rw [nexts_len, Array.length_toList]
                exact Nat.le_refl _
              walk_at "st"
              refine ⟨(nexts z.cps.toList).map fun p => decide (p.1 < p.2), SqL.of ?_, ?_⟩
              · rw [List.map_map]
                rw [← full]
                exact at_
              · have e3 : ((nexts z.cps.toList).map fun p => decide (p.1 < p.2)).all id = upB z.cps.toList := by
                  rw [upB_is, List.all_map]
                  rfl
                rw [e3]
                exact k H2 m2
        · rw [decide_eq_false c2]
          refine iteT ?_
          walk_at "st"
          have e : sgD (.str z) = false := by
            show signsB z = _
            unfold signsB wordB
            rw [decide_eq_false (show ¬ z.cps.size ≤ 4 by omega), Bool.and_false]
            rfl
          rw [← e]
          exact k H (Same.refl H)
      · rw [decide_eq_false c1]
        refine iteF ?_
        walk_at "st"
        refine iteT ?_
        walk_at "st"
        have e : sgD (.str z) = false := by
          show signsB z = _
          unfold signsB wordB
          rw [decide_eq_false (show ¬ 0 < z.cps.size by omega)]
          rfl
        rw [← e]
        exact k H (Same.refl H)
    · walk_at "st"
      refine iteT (iteT ?_)
      walk_at "st"
      rw [← sgD_no no]
      exact k H (Same.refl H)
end
end Z
namespace Z
open PySem PySem.Spec PyProof.Rows L2 G
section
variable {P : Program} {w : World} {K : PySem.W.Frag} {mg : Str → Option Value} {base : Heap}
theorem find_abc {c : Nat} (h : letB c = true) : Txt.find abc ⟨#[c]⟩ = (c : Int) - 97 := by
  have all : ∀ d ∈ List.range' 97 26, Txt.find abc ⟨#[d]⟩ = (d : Int) - 97 := by decide +kernel
  refine all c ?_
  unfold letB at h
  rw [Bool.and_eq_true, decide_eq_true_eq, decide_eq_true_eq] at h
  rw [List.mem_range'_1]
  omega
theorem a_geS {H : Hp} {Q : VK} {i j : Int} (q : Q (.bl (decide (j ≤ i))) H) : Z.rGe (.int i) (.int j) H Q := q
theorem item {H : Hp} {Q : VK} {a : Addr} {xs : List V} {i : Int} {v : V} (h : SqL K H a xs) (hi : atI xs i = some v) (q : Q v H) : Z.rItem K (.ref a) (.int i) H Q := ⟨xs, v, .inl h, hi, q⟩
theorem itemT {H : Hp} {Q : VK} {a : Addr} {xs : List V} {i : Int} {v : V} (h : SqT K H a xs) (hi : atI xs i = some v) (q : Q v H) : Z.rItem K (.ref a) (.int i) H Q := ⟨xs, v, .inr h, hi, q⟩
abbrev s_law_is_signs : Stmt := topS 30
theorem sc_law_is_signs : FnScope ["value", "at", "spots", "letter"] ["value"] (defScope s_law_is_signs) := ⟨rfl, rfl, rfl, by decide +kernel, rfl, by decide +kernel, by decide +kernel⟩
theorem ok_law_is_signs {f fl : Addr} {fd fdl : FuncData} (T : Txt2 mg) (D : Def K mg "_law_is_signs" s_law_is_signs ["value"] f fd) (D_law_is_letters : Def K mg "_law_is_letters" s_law_is_letters ["value", "least", "most"] fl fdl) : FnOk P w K mg base CX0 2 f fd ["value"] (spJudge K sgD) := by
  have G_law_is_letters : FnOk P w K mg base CX0 1 fl fdl ["value", "least", "most"] (spLawLetters K) := ok_law_is_letters T D_law_is_letters
  refine D.F.ok sc_law_is_signs (fun vs H Q E h => ?_) (fun cdv A outer s H vs Q E hr h => ?_)
  · obtain ⟨v, d, rfl, _⟩ := h
    rfl
  · obtain ⟨v, d, rfl, dz, ln, k⟩ := h
    have hu := hr.units
    refine ⟨_, (pss_cons (ps_if (pt_not (pt_val (pe_call G_law_is_letters (hr.mono (by decide)) (by rfl) D_law_is_letters.g D_law_is_letters.F.kp D_law_is_letters.b .nil pass0 (pa_cons (pv 0) (pa_cons pe_int (pa_cons pe_int pa_nil))))))
  (pss_one (ps_ret pe_bl))
  pss_nil)
 (pss_cons (ps_for PassesOwn.never rfl (pi_range1 (by rfl) T.range (pa_cons (pe_op Z.op_sub (pe_callB (Z.k_len (K := K)) (by rfl) T.len (by decide +kernel) (pa_cons (pv 0) pa_nil)) pe_int) pa_nil)) (pg_name (i := 1) sc_law_is_signs.nd rfl (by first | exact Or.inl rfl | exact Or.inr rfl))
  (pss_cons (ps_setLc (i := 2) (own := [("letter", 3)]) (by rfl) sc_law_is_signs.nd rfl rfl (sw_true rfl rfl rfl (by decide +kernel)) (pi_str (pe_slice (Z.k_cut (K := K)) (pv 0) (po_some (pv 1)) (po_some (pe_op (Z.k_add (K := K)) (pv 1) pe_int)))) (blkOk_by (own := [("letter", 3)]) (N := ["value", "at", "spots", "letter"]) (sc := defScope s_law_is_signs) (by decide +kernel))
   (fun _ _ _ _ _ => (pg_name (i := 3) sc_law_is_signs.nd rfl (by first | exact Or.inl rfl | exact Or.inr rfl))) (fun _ _ _ _ _ => pts_nil) (fun _ _ _ _ _ => (pe_m1 PySem.F.slot_str_find PySem.F.type_str_find mt_find pe_str (pv 3))))
 (pss_one (ps_if (pt_cmpR Z.op_ge (pe_ix (Z.k_item (K := K)) (pv 2) pe_int (fun _ _ => rfl)) (pe_ix (Z.k_item (K := K)) (pv 2) pe_int (fun _ _ => rfl)) (nomark _))
  (pss_one (ps_ret pe_bl))
  pss_nil))))
 (pss_one (ps_ret pe_bl)))), ?_⟩
    walk_at "st"
    refine ⟨v, d, 1, 4, rfl, dz, ln, by decide, fun H1 m => ?_⟩
    refine s_bl (P := _) ?_
    cases e : lawLet 1 4 d with
    | false =>
      refine iteT ?_
      have e2 : sgD d = false := by
        cases d with
        | str z =>
          rw [show (4 : Int) = ((4 : Nat) : Int) from rfl, lawLet_word] at e
          show signsB z = false
          unfold signsB
          rw [e]
          rfl
        | _ => rfl
      walk_at "st"
      rw [← e2]
      exact k H1 m
    | true =>
      refine iteF ?_
      cases d with
      | str z =>
        cases dz
        rw [show (4 : Int) = ((4 : Nat) : Int) from rfl, lawLet_word] at e
        obtain ⟨z0, z4, zlet⟩ := wordB_len e
        have e2 : sgD (.str z) = upB z.cps.toList := by
          show signsB z = _
          unfold signsB
          rw [e]
          rfl
        rw [e2, upB_is] at k
        have lz : z.cps.toList.length = z.length := Array.length_toList
        walk_at "st"
        refine ⟨ln.lt, ?_⟩
        walk_at "st"
        refine ⟨by omega, by omega, ?_⟩
        refine loop walkR (fun i σ2 H2 => (∃ x y, σ2 = [some (.str z), x, y, none]) ∧ Same H H2 ∧ ∀ p ∈ (nexts z.cps.toList).take i, p.1 < p.2) ⟨⟨_, _, rfl⟩, m, fun p hp => by simp at hp⟩ (fun _ _ _ _ => trivial) ?_ ?_
        · rintro i x σ2 H2 hi rfl ⟨⟨x0, y0, rfl⟩, m2, all⟩
          have lt : i + 1 < z.cps.toList.length := by omega
          walk_at "st"
          refine ⟨ln.lt, ?_⟩
          walk_at "st"
          have e3 : (0 + (i : Int)) = ((i : Nat) : Int) := by omega
          have e4 : (0 + (i : Int) + 2) = ((i + 2 : Nat) : Int) := by omega
          rw [e3, show ((i : Int) + 2) = ((i + 2 : Nat) : Int) from by omega]
          have cut : (cutS z (some ((i : Nat) : Int)) (some ((i + 2 : Nat) : Int))).cps.toList = [z.cps.toList[i], z.cps.toList[i + 1]] := by
            rw [cutS_mid, show i + 2 - i = 2 by omega, List.drop_eq_getElem_cons (show i < z.cps.toList.length by omega), List.drop_eq_getElem_cons (show i + 1 < z.cps.toList.length by omega)]
            rfl
          have many : (cutS z (some ((i : Nat) : Int)) (some ((i + 2 : Nat) : Int))).cps.size = 2 := by
            rw [← Array.length_toList, cut]
            rfl
          generalize cutS z (some ((i : Nat) : Int)) (some ((i + 2 : Nat) : Int)) = y at cut many ⊢
          have ylet : ∀ c ∈ y.cps.toList, letB c = true := by
            intro c hc
            rw [cut] at hc
            rcases List.mem_cons.mp hc with hc | hc
            · rw [hc]
              exact zlet _ (List.getElem_mem _)
            · rw [List.mem_singleton.mp hc]
              exact zlet _ (List.getElem_mem _)
          refine comp walkS (Same H) (fun j acc H2 => acc = (y.cps.toList.take j).map fun c : Nat => V.int ((c : Int) - 97)) m2 (fun L o H3 e m3 => same_upd m3 (m2.free e)) (fun _ _ _ _ _ _ _ h => h) rfl (fun _ _ _ _ _ => trivial) ?_ ?_
          · rintro L j acc x H3 fresh hj ⟨c, hc, rfl⟩ len m3 at_ rfl
            refine turn1 rfl ?_
            walk_at "st"
            refine ⟨abc, ⟨#[c]⟩, rfl, rfl, ?_⟩
            rw [find_abc (ylet c (by rw [Array.mem_toList_iff]; exact Array.mem_of_getElem? hc))]
            refine put fresh (fun L o H3 e m3 => same_upd m3 (m2.free e)) (fun _ _ _ _ _ _ _ h => h) at_ (by omega) len m3 ?_
            rw [take_sign hc, List.map_append]
            rfl
          · rintro L acc H3 fresh len m3 at_ rfl
            rw [full_signs, cut] at at_
            have s3 : SqL K H3 L [V.int ((z.cps.toList[i] : Int) - 97), V.int ((z.cps.toList[i + 1] : Int) - 97)] := SqL.of at_
            have nx : (nexts z.cps.toList).take (i + 1) = (nexts z.cps.toList).take i ++ [(z.cps.toList[i], z.cps.toList[i + 1])] := by
              refine nexts_at (List.getElem?_eq_getElem _) ?_
              rw [List.getElem?_drop, Nat.add_comm, List.getElem?_eq_getElem]
            walk_at "st"
            refine item s3 (by rfl) ?_
            walk_at "st"
            refine item s3 (by rfl) ?_
            refine a_geS ?_
            walk_at "st"
            by_cases lt2 : z.cps.toList[i] < z.cps.toList[i + 1]
            · rw [decide_eq_false (by omega)]
              refine iteF ?_
              walk_at "st"
              refine ⟨⟨_, _, rfl⟩, m3, fun p hp => ?_⟩
              rw [nx] at hp
              rcases List.mem_append.mp hp with hp | hp
              · exact all p hp
              · rw [List.mem_singleton.mp hp]
                exact lt2
            · rw [decide_eq_true (by omega)]
              refine iteT ?_
              walk_at "st"
              have e5 : ((nexts z.cps.toList).all fun p => decide (p.1 < p.2)) = false := by
                rw [List.all_eq_false]
                refine ⟨(z.cps.toList[i], z.cps.toList[i + 1]), ?_, by show ¬ (decide _ = true); rw [decide_eq_false lt2]; exact Bool.false_ne_true⟩
                exact List.mem_of_mem_take (nx ▸ List.mem_append_right _ (List.mem_singleton.mpr rfl) : (z.cps.toList[i], z.cps.toList[i + 1]) ∈ (nexts z.cps.toList).take (i + 1))
              rw [← e5]
              exact k H3 m3
        · rintro σ2 H2 ⟨_, m2, all⟩
          walk_at "st"
          have e5 : ((nexts z.cps.toList).all fun p => decide (p.1 < p.2)) = true := by
            rw [List.all_eq_true]
            intro p hp
            refine decide_eq_true (all p ?_)
            rw [List.take_of_length_le]
            · exact hp
            · rw [nexts_len]
              omega
          rw [← e5]
          exact k H2 m2
      | _ => exact Bool.noConfusion e
end
end Z
namespace Z
open PySem PySem.Spec PyProof.Rows L2 G
section
variable {P : Program} {w : World} {K : PySem.W.Frag} {mg : Str → Option Value} {base : Heap}
theorem k_lenSet {X : Cx} {a : Expr} {ta : TE} {p p2 q pos : Pos} (hc : X.calm = true) (hg : Gl X "len") (hm : X.mg "len" = none) (hg2 : Gl X "set") (hm2 : X.mg "set" = none) (ha : PE X a ta) (h : X.K = K := by rfl)
    (na : starEach [a] X.env = (false, eval a X.env) :: starEach [] X.env := by rfl) : PE X (.Call (.Name "len" p) [.Call (.Name "set" p2) [a] [] q] [] pos) (tLenSetS K ta) := by
  subst h
  exact pe_lenSetS hc hg hm hg2 hm2 ha na
theorem s_lenSet {σ : L2.St} {H : Hp} {Q : VK} {ta : TE} (q : ta σ H fun x H1 => ∃ l, ∃ xs : List Str, x = .ref l ∧ SqL K H1 l (xs.map V.str) ∧ xs.length < 1000 ∧ Q (.int (ded xs xs.length).length) H1) : tLenSetS K ta σ H Q := q
theorem fold_ded : ∀ (xs l : List Str), (xs.foldl step_dedup l).length = l.length + xs.length ↔ (∀ x ∈ xs, x ∉ l) ∧ xs.Nodup
  | [], l => by simp
  | x :: xs, l => by
    rw [List.foldl_cons]
    by_cases c : x ∈ l
    · have e : step_dedup l x = l := by
        unfold step_dedup
        rw [if_pos (by rw [List.any_eq_true]; exact ⟨x, c, beq_self_eq_true x⟩)]
      have le := length_foldl_step_dedup_le xs l
      rw [e]
      constructor
      · intro h
        rw [List.length_cons] at h
        omega
      · intro h
        exact absurd c (h.1 x List.mem_cons_self)
    · have e : step_dedup l x = l ++ [x] := by
        unfold step_dedup
        rw [if_neg]
        rw [List.any_eq_true]
        rintro ⟨y, hy, z⟩
        exact c (eq_of_beq z ▸ hy)
      have ih := fold_ded xs (l ++ [x])
      rw [e]
      rw [List.length_append, List.length_singleton] at ih
      rw [List.length_cons, show l.length + (xs.length + 1) = l.length + 1 + xs.length by omega, ih, List.nodup_cons]
      constructor
      · rintro ⟨h1, h2⟩
        refine ⟨fun y hy => ?_, fun z => h1 x z (List.mem_append_right _ (List.mem_singleton.mpr rfl)), h2⟩
        rcases List.mem_cons.mp hy with e3 | hy
        · rw [e3]
          exact c
        · exact fun z => h1 y hy (List.mem_append_left _ z)
      · rintro ⟨h1, h2, h3⟩
        refine ⟨fun y hy z => ?_, h3⟩
        rcases List.mem_append.mp z with z | z
        · exact h1 y (List.mem_cons_of_mem _ hy) z
        · rw [List.mem_singleton.mp z] at hy
          exact h2 hy
theorem ded_full (xs : List Str) : decide (((ded xs xs.length).length : Int) = (xs.length : Nat)) = decide xs.Nodup := by
  have h := fold_ded xs []
  unfold ded
  rw [List.take_length]
  rw [List.length_nil, Nat.zero_add] at h
  by_cases c : xs.Nodup
  · rw [decide_eq_true c, decide_eq_true (Int.ofNat_inj.mpr (h.mpr ⟨fun _ _ => List.not_mem_nil, c⟩))]
  · rw [decide_eq_false c, decide_eq_false fun z => c (h.mp (Int.ofNat_inj.mp z)).2]
/-! weights of parts -/
theorem Len.of {d : PyData} (h : wt d ≤ 10000000) : Len d := by
  rintro z rfl
  simp only [wt] at h
  omega
theorem wt_mem : ∀ {ds : List PyData} {d : PyData}, d ∈ ds → wt d ≤ wtAll ds
  | e :: ds, d, h => by
    simp only [wtAll]
    rcases List.mem_cons.mp h with h | h
    · rw [h]
      omega
    · have := wt_mem h
      omega
theorem wt_tup {ds : List PyData} {d : PyData} (h : wt (.tuple ds) ≤ 10000000) (m : d ∈ ds) : wt d ≤ 10000000 := by
  have := wt_mem m
  simp only [wt] at h
  omega
/-- a judge of data -/
def spIs (K : PySem.W.Frag) (f : PyData → Bool) : Sp := fun vs H Q _ => ∃ v d, vs = [v] ∧ Dz K H v d ∧ wt d ≤ 10000000 ∧ ∀ H1, Same H H1 → Q (.bl (f d)) H1
/-- a judge of a kind -/
def spKind (K : PySem.W.Frag) : Sp := fun vs H Q _ => ∃ v d n, vs = [v, .int (n : Nat)] ∧ Dz K H v d ∧ wt d ≤ 10000000 ∧ ∀ H1, Same H H1 → Q (.bl (kindD n d)) H1
/-- a judge of two kinds -/
def spBoth (K : PySem.W.Frag) : Sp := fun vs H Q _ => ∃ v u d e, vs = [v, u] ∧ Dz K H v d ∧ Dz K H u e ∧ wt d ≤ 10000000 ∧ wt e ≤ 10000000 ∧ ∀ H1, Same H H1 → Q (.bl (strsD d e)) H1
theorem strmD_no {d : PyData} (h : ∀ ds, d ≠ .tuple ds) : strmD d = false := by
  cases d with
  | tuple z => exact absurd rfl (h z)
  | _ => rfl
theorem strmD_len {ds : List PyData} (h : ds.length ≠ 2) : strmD (.tuple ds) = false := by
  match ds, h with
  | [], _ => rfl
  | [_], _ => rfl
  | [_, _], h => exact absurd rfl h
  | _ :: _ :: _ :: _, _ => rfl
theorem kindD_no {n : Nat} {d : PyData} (h : ∀ ds, d ≠ .tuple ds) : kindD n d = false := by
  cases d with
  | tuple z => exact absurd rfl (h z)
  | _ => rfl
theorem two_of {H : Hp} {xs : List V} {ds : List PyData} (h : DzAll K H xs ds) (l : ds.length = 2) : ∃ x y a b, xs = [x, y] ∧ ds = [a, b] ∧ Dz K H x a ∧ Dz K H y b := by
  match ds, l with
  | [a, b], _ =>
    cases h with
    | cons h1 h =>
      cases h with
      | cons h2 h =>
        cases h
        exact ⟨_, _, _, _, rfl, rfl, h1, h2⟩
theorem len_tup {H : Hp} {Q : VK} {a : Addr} {xs : List V} {ds : List PyData} (h : SqT K H a xs) (g : DzAll K H xs ds) (q : Q (.int (ds.length : Nat)) H) : Z.rLen K [.ref a] H Q := by
  refine .inl ⟨xs, .inr h, ?_⟩
  rw [g.len]
  exact q
abbrev s_is_stream : Stmt := topS 13
theorem sc_is_stream : FnScope ["value"] ["value"] (defScope s_is_stream) := ⟨rfl, rfl, rfl, by decide +kernel, rfl, by decide +kernel, by decide +kernel⟩
theorem ok_is_stream {f fn fs fl : Addr} {fd fdn fds fdl : FuncData} (T : Txt2 mg) (N8 : Num mg "MAX_NAME" 8) (N4 : Num mg "MAX_SIGNS" 4) (D : Def K mg "_is_stream" s_is_stream ["value"] f fd) (Dis_name : Def K mg "is_name" sis_name ["value"] fn fdn) (Dis_signs : Def K mg "is_signs" sis_signs ["value"] fs fds)
    (Dare_letters : Def K mg "are_letters" sare_letters ["text"] fl fdl) : FnOk P w K mg base CX0 3 f fd ["value"] (spIs K strmD) := by
  have Gis_name : FnOk P w K mg base CX0 2 fn fdn ["value"] (spJudge K nmD) := ok_is_name T N8 Dis_name Dare_letters
  have Gis_signs : FnOk P w K mg base CX0 2 fs fds ["value"] (spJudge K sgD) := ok_is_signs T N4 Dis_signs Dare_letters
  refine D.F.ok sc_is_stream (fun vs H Q E h => ?_) (fun cdv A outer s H vs Q E hr h => ?_)
  · obtain ⟨v, d, rfl, _⟩ := h
    rfl
  · obtain ⟨v, d, rfl, dz, ln, k⟩ := h
    have hu := hr.units
    refine ⟨_, (pss_one (ps_ret (pe_and (pe_callB (Z.k_is (K := K)) (by rfl) T.isinstance (by decide +kernel) (pa_cons (pv 0) (pa_cons (pe_bltn (v := .ty "tuple") (by rfl) T.tuple (by decide +kernel) rfl) pa_nil))) (pe_and (pe_cmpR (Z.k_eq (K := K) hu) (pe_callB (Z.k_len (K := K)) (by rfl) T.len (by decide +kernel) (pa_cons (pv 0) pa_nil)) pe_int (nomark _)) (pe_and (pe_call Gis_name (hr.mono (by decide)) (by rfl) Dis_name.g Dis_name.F.kp Dis_name.b .nil pass0 (pa_cons (pe_ix (Z.k_item (K := K)) (pv 0) pe_int (fun _ _ => rfl)) pa_nil)) (pe_one (pe_call Gis_signs (hr.mono (by decide)) (by rfl) Dis_signs.g Dis_signs.F.kp Dis_signs.b .nil pass0 (pa_cons (pe_ix (Z.k_item (K := K)) (pv 0) pe_int (fun _ _ => rfl)) pa_nil)))))))), ?_⟩
    walk_at "st"
    refine is_tup dz ?_ (fun no => ?_)
    · rintro ds a xs rfl rfl hx hd
      refine s_bl (P := _) ?_
      refine iteT ?_
      walk_at "st"
      refine len_tup hx hd ?_
      walk_at "st"
      by_cases two : ds.length = 2
      · rw [decide_eq_true (show ((ds.length : Nat) : Int) = 2 by omega)]
        refine iteT ?_
        obtain ⟨x, y, da, db, rfl, rfl, h1, h2⟩ := two_of hd two
        have e : strmD (.tuple [da, db]) = (nmD da && sgD db) := rfl
        rw [e] at k
        walk_at "st"
        refine itemT hx (by rfl) ?_
        walk_at "st"
        refine ⟨x, da, rfl, h1, Len.of (wt_tup ln (by simp)), fun H1 m => ?_⟩
        refine s_bl (P := _) ?_
        cases b : nmD da with
        | false =>
          refine iteF ?_
          rw [b] at k
          exact k H1 m
        | true =>
          refine iteT ?_
          rw [b, Bool.true_and] at k
          walk_at "st"
          refine itemT (same_sqt m hx) (by rfl) ?_
          walk_at "st"
          refine ⟨y, db, rfl, Dz.same m _ _ h2, Len.of (wt_tup ln (by simp)), fun H2 m2 => ?_⟩
          exact k H2 (m.trans m2)
      · rw [decide_eq_false (show ¬ ((ds.length : Nat) : Int) = 2 by omega)]
        refine iteF ?_
        rw [← strmD_len two]
        exact k H (Same.refl H)
    · refine s_bl (P := _) ?_
      refine iteF ?_
      rw [← strmD_no no]
      exact k H (Same.refl H)
end
end Z
namespace Z
open PySem PySem.Spec PyProof.Rows L2 G
section
variable {P : Program} {w : World} {K : PySem.W.Frag} {mg : Str → Option Value} {base : Heap}
abbrev s_are_kind : Stmt := topS 14
theorem sc_are_kind : FnScope ["value", "fewest", "pair"] ["value", "fewest"] (defScope s_are_kind) := ⟨rfl, rfl, rfl, by decide +kernel, rfl, by decide +kernel, by decide +kernel⟩
theorem ok_are_kind {f fst fn fs fl : Addr} {fd fdst fdn fds fdl : FuncData} (T : Txt2 mg) (N8 : Num mg "MAX_NAME" 8) (N4 : Num mg "MAX_SIGNS" 4) (N3 : Num mg "MAX_KIND" 3) (D : Def K mg "_are_kind" s_are_kind ["value", "fewest"] f fd) (D_is_stream : Def K mg "_is_stream" s_is_stream ["value"] fst fdst)
    (Dis_name : Def K mg "is_name" sis_name ["value"] fn fdn) (Dis_signs : Def K mg "is_signs" sis_signs ["value"] fs fds) (Dare_letters : Def K mg "are_letters" sare_letters ["text"] fl fdl) : FnOk P w K mg base CX0 4 f fd ["value", "fewest"] (spKind K) := by
  have G_is_stream : FnOk P w K mg base CX0 3 fst fdst ["value"] (spIs K strmD) := ok_is_stream T N8 N4 D_is_stream Dis_name Dis_signs Dare_letters
  refine D.F.ok sc_are_kind (fun vs H Q E h => ?_) (fun cdv A outer s H vs Q E hr h => ?_)
  · obtain ⟨v, d, n, rfl, _⟩ := h
    rfl
  · obtain ⟨v, d, n, rfl, dz, ln, k⟩ := h
    have hu := hr.units
    obtain ⟨t3, c_MAX_KIND⟩ := N3
    refine ⟨_, (pss_cons (ps_if (PW.pt (pw_or (pt_not (pt_val (pe_callB (Z.k_is (K := K)) (by rfl) T.isinstance (by decide +kernel) (pa_cons (pv 0) (pa_cons (pe_bltn (v := .ty "tuple") (by rfl) T.tuple (by decide +kernel) rfl) pa_nil))))) (pw_or1 (pt_not (pt_chain Z.op_le Z.op_le (pv 1) (pe_callB (Z.k_len (K := K)) (by rfl) T.len (by decide +kernel) (pa_cons (pv 0) pa_nil)) (pe_glob (v := .int 3) (by rfl) c_MAX_KIND ⟨_, rfl⟩))))))
  (pss_one (ps_ret pe_bl))
  pss_nil)
 (pss_one (ps_ret (pe_callB (Z.k_all (K := K) rfl) (by rfl) T.all (by decide +kernel) (pa_cons (pe_lc (own := [("pair", 2)]) (by rfl) sc_are_kind.nd (pi_tup (pv 0)) (blkOk_by (own := [("pair", 2)]) (N := ["value", "fewest", "pair"]) (sc := defScope s_are_kind) (by decide +kernel))
   (fun _ _ _ _ _ => (pg_name (i := 2) sc_are_kind.nd rfl (by first | exact Or.inl rfl | exact Or.inr rfl))) (fun _ _ _ _ _ => pts_nil) (fun _ _ _ _ _ => (pe_call G_is_stream (hr.mono (by decide)) (by rfl) D_is_stream.g D_is_stream.F.kp D_is_stream.b .nil pass0 (pa_cons (pv 2) pa_nil)))) pa_nil))))), ?_⟩
    walk_at "st"
    refine is_tup dz ?_ (fun no => ?_)
    · rintro ds a xs rfl rfl hx hd
      walk_at "st"
      refine iteF ?_
      walk_at "st"
      refine len_tup hx hd ?_
      walk_at "st"
      by_cases c1 : ((n : Nat) : Int) ≤ ((ds.length : Nat) : Int)
      · rw [decide_eq_true c1]
        refine iteT ?_
        walk_at "st"
        by_cases c2 : ((ds.length : Nat) : Int) ≤ 3
        · rw [decide_eq_true c2]
          refine iteF ?_
          walk_at "st"
          have e : kindD n (.tuple ds) = ds.all strmD := by
            show (_ && _ && _) = _
            rw [decide_eq_true (show n ≤ ds.length by omega), decide_eq_true (show ds.length ≤ 3 by omega)]
            rfl
          rw [e] at k
          have many := hd.len
          refine ⟨⟨_, hx⟩, comp (walkT (xs := xs)) (Same H) (fun i acc H2 => acc = (ds.take i).map fun d => V.bl (strmD d)) (Same.refl H) (fun L o H2 e m => same_upd m e) (fun _ _ _ _ _ _ _ h => h) rfl (fun i acc H2 m _ => same_sqt m hx) ?_ ?_⟩
          · rintro L i acc x H2 fresh hi hxi len m at_ rfl
            obtain ⟨d, hdi, dz2⟩ := hd.get hxi
            refine turn1 rfl ?_
            walk_at "st"
            refine ⟨x, d, rfl, Dz.same m _ _ dz2, wt_tup ln (List.mem_of_getElem? hdi), fun H3 m3 => ?_⟩
            refine put fresh (fun L o H2 e m => same_upd m e) (fun _ _ _ _ _ _ _ h => h) (m3 _ _ at_) (by omega) len (m.trans m3) ?_
            rw [List.take_add_one, hdi, List.map_append]
            rfl
          · rintro L acc H2 fresh len m at_ rfl
            rw [many, List.take_length] at at_
            walk_at "st"
            refine ⟨ds.map strmD, SqL.of ?_, ?_⟩
            · rw [List.map_map]
              exact at_
            · rw [List.all_map]
              exact k H2 m
        · rw [decide_eq_false c2]
          refine iteT ?_
          walk_at "st"
          have e : kindD n (.tuple ds) = false := by
            show (_ && _ && _) = _
            rw [decide_eq_false (show ¬ ds.length ≤ 3 by omega), Bool.and_false]
            rfl
          rw [← e]
          exact k H (Same.refl H)
      · rw [decide_eq_false c1]
        refine iteF ?_
        walk_at "st"
        refine iteT ?_
        walk_at "st"
        have e : kindD n (.tuple ds) = false := by
          show (_ && _ && _) = _
          rw [decide_eq_false (show ¬ n ≤ ds.length by omega)]
          rfl
        rw [← e]
        exact k H (Same.refl H)
    · walk_at "st"
      refine iteT (iteT ?_)
      walk_at "st"
      rw [← kindD_no no]
      exact k H (Same.refl H)
/-- a tuple put behind another -/
theorem cat_tup {H : Hp} {Q : VK} {a b : Addr} {xs ys : List V} (ha : SqT K H a xs) (hb : SqT K H b ys) (few : xs.length + ys.length ≤ 1000) (q : ∀ p H1, Same H H1 → SqT K H1 p (xs ++ ys) → Q (.ref p) H1) : Z.rAdd K (.ref a) (.ref b) H Q := by
  refine .inr ⟨a, b, xs, ys, rfl, rfl, ha, hb, by rw [sizeLine_eq]; omega, ?_, ?_, ?_⟩
  · rintro rfl
    exact q b H (Same.refl H) hb
  · rintro _ rfl
    refine q a H (Same.refl H) ?_
    rw [List.append_nil]
    exact ha
  · intro _ _ p np
    exact q p _ (same_new (Same.refl H) np) (SqT.of upd_same)
theorem nmD_str {d : PyData} (h : nmD d = true) : ∃ z, d = .str z ∧ nameB z = true := by
  cases d with
  | str z => exact ⟨z, rfl, h⟩
  | _ => exact Bool.noConfusion h
theorem sgD_str {d : PyData} (h : sgD d = true) : ∃ z, d = .str z ∧ signsB z = true := by
  cases d with
  | str z => exact ⟨z, rfl, h⟩
  | _ => exact Bool.noConfusion h
theorem strmD_two {d : PyData} (h : strmD d = true) : ∃ z y, d = .tuple [.str z, .str y] ∧ nameB z = true ∧ signsB y = true := by
  by_cases c : ∃ ds, d = .tuple ds
  · obtain ⟨ds, rfl⟩ := c
    by_cases two : ds.length = 2
    · match ds, two with
      | [a, b], _ =>
        have h2 : (nmD a && sgD b) = true := h
        rw [Bool.and_eq_true] at h2
        obtain ⟨z, rfl, hz⟩ := nmD_str h2.1
        obtain ⟨y, rfl, hy⟩ := sgD_str h2.2
        exact ⟨z, y, rfl, hz, hy⟩
    · rw [strmD_len two] at h
      exact Bool.noConfusion h
  · rw [strmD_no fun ds e => c ⟨ds, e⟩] at h
    exact Bool.noConfusion h
/-- a well formed pair -/
theorem pair_of {H : Hp} {v : V} {d : PyData} (h : Dz K H v d) (g : strmD d = true) : ∃ a z y, v = .ref a ∧ SqT K H a [.str z, .str y] ∧ d = .tuple [.str z, .str y] ∧ nameB z = true ∧ signsB y = true := by
  obtain ⟨z, y, rfl, hz, hy⟩ := strmD_two g
  cases h with
  | tup a b =>
    cases b with
    | cons b1 b =>
      cases b with
      | cons b2 b =>
        cases b
        cases b1
        cases b2
        exact ⟨_, z, y, rfl, a, rfl, hz, hy⟩
/-- a kind that is well formed -/
theorem kind_of {n : Nat} {d : PyData} (h : kindD n d = true) : ∃ ds, d = .tuple ds ∧ n ≤ ds.length ∧ ds.length ≤ 3 ∧ ∀ e ∈ ds, strmD e = true := by
  by_cases c : ∃ ds, d = .tuple ds
  · obtain ⟨ds, rfl⟩ := c
    have h2 : (decide (n ≤ ds.length) && decide (ds.length ≤ 3) && ds.all strmD) = true := h
    simp only [Bool.and_eq_true, decide_eq_true_eq, List.all_eq_true] at h2
    exact ⟨ds, rfl, h2.1.1, h2.1.2, h2.2⟩
  · rw [kindD_no fun ds e => c ⟨ds, e⟩] at h
    exact Bool.noConfusion h
end
end Z
namespace Z
open PySem PySem.Spec PyProof.Rows L2 G
section
variable {P : Program} {w : World} {K : PySem.W.Frag} {mg : Str → Option Value} {base : Heap}
/-- [pair[0] for pair in pairs] of well formed pairs -/
theorem comp_names {σ : L2.St} {vs : List Nat} {j : Nat} {p : Addr} {xs : List V} {ds : List PyData} {H : Hp} {Q : VK} (hx : SqT K H p xs) (hd : DzAll K H xs ds) (good : ∀ d ∈ ds, strmD d = true) (few : ds.length ≤ 1000)
    (hw : ∀ x, wipe ((wipe σ vs).set j (some x)) vs = wipe σ vs) (hj : ∀ x, ((wipe σ vs).set j (some x))[j]? = some (some x)) (done : ∀ L H2, H L = none → Same H H2 → H2 L = some (.lst (oneOf (ds.map nm1))) → Q (.ref L) H2) :
    CompOk (Itt K p) (gName j) tYes (tOp (Z.rItem K) (tVar j) (tC (.int 0))) vs σ H Q := by
  have many := hd.len
  refine comp (walkT (xs := xs)) (Same H) (fun i acc H2 => acc = oneOf ((ds.take i).map nm1)) (Same.refl H) (fun L o H2 e m => same_upd m e) (fun _ _ _ _ _ _ _ h => h) rfl (fun i acc H2 m _ => same_sqt m hx) ?_ ?_
  · rintro L i acc x H2 fresh hi hxi len m at_ rfl
    obtain ⟨d, hdi, dz⟩ := hd.get hxi
    obtain ⟨a, z, y, rfl, ha, rfl, _, _⟩ := pair_of dz (good d (List.mem_of_getElem? hdi))
    refine turn1 (hw _) ?_
    refine s_op (s_var (hj _) (s_c ?_))
    refine itemT (same_sqt m ha) (by rfl) ?_
    refine put fresh (fun L o H2 e m => same_upd m e) (fun _ _ _ _ _ _ _ h => h) at_ (by omega) len m ?_
    unfold oneOf
    rw [List.take_add_one, hdi, List.map_append, List.map_append]
    rfl
  · rintro L acc H2 fresh len m at_ rfl
    rw [many, List.take_length] at at_
    exact done L H2 fresh m at_
theorem strsD_no1 {d e : PyData} (h : kindD 1 d = false) : strsD d e = false := by
  unfold strsD
  rw [h]
  rfl
theorem strsD_no2 {d e : PyData} (h : kindD 0 e = false) : strsD d e = false := by
  unfold strsD
  rw [h, Bool.and_false]
  rfl
theorem strsD_yes {ds es : List PyData} (h : kindD 1 (.tuple ds) = true) (g : kindD 0 (.tuple es) = true) : strsD (.tuple ds) (.tuple es) = decide ((ds ++ es).map nm1).Nodup := by
  unfold strsD nmsD
  rw [h, g, ← List.map_append]
  rfl
/-- the names' list: are all different? -/
theorem lens_eq {σ : L2.St} {H : Hp} {Q : VK} {j : Nat} {L : Addr} {zs : List Str} (hj : σ[j]? = some (some (.ref L))) (hL : H L = some (.lst (oneOf zs))) (few : zs.length < 1000) (q : Q (.bl (decide zs.Nodup)) H) : tOp (Z.rEq K) (tLenSetS K (tVar j)) (tCB (Z.rLen K) (tCons (tVar j) tNil)) σ H Q := by
  refine s_op (s_lenSet (s_var hj ⟨L, zs, rfl, SqL.of hL, few, ?_⟩))
  refine s_cb (s_cons (s_var hj (s_nil ?_)))
  refine .inl ⟨oneOf zs, .inl (SqL.of hL), ?_⟩
  refine a_eqI ?_
  rw [List.length_map, ded_full]
  exact q
abbrev s_are_streams : Stmt := topS 15
theorem sc_are_streams : FnScope ["sources", "sinks", "names", "pair"] ["sources", "sinks"] (defScope s_are_streams) := ⟨rfl, rfl, rfl, by decide +kernel, rfl, by decide +kernel, by decide +kernel⟩
theorem ok_are_streams {f fk fst fn fs fl : Addr} {fd fdk fdst fdn fds fdl : FuncData} (T : Txt2 mg) (N8 : Num mg "MAX_NAME" 8) (N4 : Num mg "MAX_SIGNS" 4) (N3 : Num mg "MAX_KIND" 3) (D : Def K mg "_are_streams" s_are_streams ["sources", "sinks"] f fd) (D_are_kind : Def K mg "_are_kind" s_are_kind ["value", "fewest"] fk fdk) (D_is_stream : Def K mg "_is_stream" s_is_stream ["value"] fst fdst)
    (Dis_name : Def K mg "is_name" sis_name ["value"] fn fdn) (Dis_signs : Def K mg "is_signs" sis_signs ["value"] fs fds) (Dare_letters : Def K mg "are_letters" sare_letters ["text"] fl fdl) : FnOk P w K mg base CX0 5 f fd ["sources", "sinks"] (spBoth K) := by
  have G_are_kind : FnOk P w K mg base CX0 4 fk fdk ["value", "fewest"] (spKind K) := ok_are_kind T N8 N4 N3 D_are_kind D_is_stream Dis_name Dis_signs Dare_letters
  refine D.F.ok sc_are_streams (fun vs H Q E h => ?_) (fun cdv A outer s H vs Q E hr h => ?_)
  · obtain ⟨v, u, d, e, rfl, _⟩ := h
    rfl
  · obtain ⟨v, u, d, e, rfl, dz, dy, ld, le, k⟩ := h
    have hu := hr.units
    refine ⟨_, (pss_cons (ps_if (PW.pt (pw_or (pt_not (pt_val (pe_call G_are_kind (hr.mono (by decide)) (by rfl) D_are_kind.g D_are_kind.F.kp D_are_kind.b .nil pass0 (pa_cons (pv 0) (pa_cons pe_int pa_nil))))) (pw_or1 (pt_not (pt_val (pe_call G_are_kind (hr.mono (by decide)) (by rfl) D_are_kind.g D_are_kind.F.kp D_are_kind.b .nil pass0 (pa_cons (pv 1) (pa_cons pe_int pa_nil))))))))
  (pss_one (ps_ret pe_bl))
  pss_nil)
 (pss_cons (ps_setLc (i := 2) (own := [("pair", 3)]) (by rfl) sc_are_streams.nd rfl rfl (sw_true rfl rfl rfl (by decide +kernel)) (pi_tup (pe_op (Z.k_add (K := K)) (pv 0) (pv 1))) (blkOk_by (own := [("pair", 3)]) (N := ["sources", "sinks", "names", "pair"]) (sc := defScope s_are_streams) (by decide +kernel))
   (fun _ _ _ _ _ => (pg_name (i := 3) sc_are_streams.nd rfl (by first | exact Or.inl rfl | exact Or.inr rfl))) (fun _ _ _ _ _ => pts_nil) (fun _ _ _ _ _ => (pe_ix (Z.k_item (K := K)) (pv 3) pe_int (fun _ _ => rfl))))
 (pss_one (ps_ret (pe_cmpR (Z.k_eq (K := K) hu) (Z.k_lenSet (K := K) rfl (by rfl) T.len (by rfl) T.set (pv 2)) (pe_callB (Z.k_len (K := K)) (by rfl) T.len (by decide +kernel) (pa_cons (pv 2) pa_nil)) (nomark _)))))), ?_⟩
    walk_at "st"
    refine ⟨v, d, 1, rfl, dz, ld, fun H1 m => ?_⟩
    refine s_bl (P := _) ?_
    cases b1 : kindD 1 d with
    | false =>
      refine iteT (iteT ?_)
      walk_at "st"
      rw [← strsD_no1 b1]
      exact k H1 m
    | true =>
      refine iteF ?_
      walk_at "st"
      refine ⟨u, e, 0, rfl, Dz.same m _ _ dy, le, fun H2 m2 => ?_⟩
      have m02 := m.trans m2
      refine s_bl (P := _) ?_
      cases b2 : kindD 0 e with
      | false =>
        refine iteT ?_
        walk_at "st"
        rw [← strsD_no2 b2]
        exact k H2 m02
      | true =>
        refine iteF ?_
        obtain ⟨ds, rfl, d1, d3, dg⟩ := kind_of b1
        obtain ⟨es, rfl, _, e3, eg⟩ := kind_of b2
        rw [strsD_yes b1 b2] at k
        cases dz with
        | tup ha had =>
          cases dy with
          | tup hb hbd =>
            have l1 := had.len
            have l2 := hbd.len
            walk_at "st"
            refine cat_tup (same_sqt m02 ha) (same_sqt m02 hb) (by omega) fun p H3 m3 hp => ?_
            have m03 := m02.trans m3
            walk_at "st"
            refine ⟨⟨_, hp⟩, comp_names (ds := ds ++ es) hp ((DzAll.same m03 _ _ had).app (DzAll.same m03 _ _ hbd)) ?_ (by rw [List.length_append]; omega) (fun _ => rfl) (fun _ => rfl) ?_⟩
            · intro d hd
              rcases List.mem_append.mp hd with hd | hd
              · exact dg d hd
              · exact eg d hd
            · intro L H4 fresh m4 hL
              walk_at "st"
              refine lens_eq rfl hL (by rw [List.length_map, List.length_append]; omega) ?_
              exact k H4 (m03.trans m4)
end
end Z
namespace Z
open PySem PySem.Spec PyProof.Rows L2 G
section
variable {P : Program} {w : World} {K : PySem.W.Frag} {mg : Str → Option Value} {base : Heap}
abbrev s_law_are_parts : Stmt := topS 31
theorem sc_law_are_parts : FnScope ["value", "least", "part"] ["value", "least"] (defScope s_law_are_parts) := ⟨rfl, rfl, rfl, by decide +kernel, rfl, by decide +kernel, by decide +kernel⟩
theorem ok_law_are_parts {f fn fs fl : Addr} {fd fdn fds fdl : FuncData} (T : Txt2 mg) (D : Def K mg "_law_are_parts" s_law_are_parts ["value", "least"] f fd)
    (D_law_is_name : Def K mg "_law_is_name" s_law_is_name ["value"] fn fdn) (D_law_is_signs : Def K mg "_law_is_signs" s_law_is_signs ["value"] fs fds) (D_law_is_letters : Def K mg "_law_is_letters" s_law_is_letters ["value", "least", "most"] fl fdl) : FnOk P w K mg base CX0 3 f fd ["value", "least"] (spKind K) := by
  have G_law_is_name : FnOk P w K mg base CX0 2 fn fdn ["value"] (spJudge K nmD) := ok_law_is_name T D_law_is_name D_law_is_letters
  have G_law_is_signs : FnOk P w K mg base CX0 2 fs fds ["value"] (spJudge K sgD) := ok_law_is_signs T D_law_is_signs D_law_is_letters
  refine D.F.ok sc_law_are_parts (fun vs H Q E h => ?_) (fun cdv A outer s H vs Q E hr h => ?_)
  · obtain ⟨v, d, n, rfl, _⟩ := h
    rfl
  · obtain ⟨v, d, n, rfl, dz, ln, k⟩ := h
    have hu := hr.units
    refine ⟨_, (pss_cons (ps_if (PW.pt (pw_or (pt_not (pt_val (pe_callB (Z.k_is (K := K)) (by rfl) T.isinstance (by decide +kernel) (pa_cons (pv 0) (pa_cons (pe_bltn (v := .ty "tuple") (by rfl) T.tuple (by decide +kernel) rfl) pa_nil))))) (pw_or (pt_cmpR Z.op_lt (pe_callB (Z.k_len (K := K)) (by rfl) T.len (by decide +kernel) (pa_cons (pv 0) pa_nil)) (pv 1) (nomark _)) (pw_or1 (pt_cmpR Z.op_gt (pe_callB (Z.k_len (K := K)) (by rfl) T.len (by decide +kernel) (pa_cons (pv 0) pa_nil)) pe_int (nomark _))))))
  (pss_one (ps_ret pe_bl))
  pss_nil)
 (pss_cons (ps_for PassesOwn.never rfl (pi_tup (pv 0)) (pg_name (i := 2) sc_law_are_parts.nd rfl (by first | exact Or.inl rfl | exact Or.inr rfl))
  (pss_cons (ps_if (PW.pt (pw_or (pt_not (pt_val (pe_callB (Z.k_is (K := K)) (by rfl) T.isinstance (by decide +kernel) (pa_cons (pv 2) (pa_cons (pe_bltn (v := .ty "tuple") (by rfl) T.tuple (by decide +kernel) rfl) pa_nil))))) (pw_or1 (pt_cmpR (Z.k_ne (K := K) hu) (pe_callB (Z.k_len (K := K)) (by rfl) T.len (by decide +kernel) (pa_cons (pv 2) pa_nil)) pe_int (nomark _)))))
  (pss_one (ps_ret pe_bl))
  pss_nil)
 (pss_one (ps_if (PW.pt (pw_or (pt_not (pt_val (pe_call G_law_is_name (hr.mono (by decide)) (by rfl) D_law_is_name.g D_law_is_name.F.kp D_law_is_name.b .nil pass0 (pa_cons (pe_ix (Z.k_item (K := K)) (pv 2) pe_int (fun _ _ => rfl)) pa_nil)))) (pw_or1 (pt_not (pt_val (pe_call G_law_is_signs (hr.mono (by decide)) (by rfl) D_law_is_signs.g D_law_is_signs.F.kp D_law_is_signs.b .nil pass0 (pa_cons (pe_ix (Z.k_item (K := K)) (pv 2) pe_int (fun _ _ => rfl)) pa_nil)))))))
  (pss_one (ps_ret pe_bl))
  pss_nil))))
 (pss_one (ps_ret pe_bl)))), ?_⟩
    walk_at "st"
    refine is_tup dz ?_ (fun no => ?_)
    · rintro ds a xs rfl rfl hx hd
      walk_at "st"
      refine iteF ?_
      walk_at "st"
      refine len_tup hx hd ?_
      walk_at "st"
      by_cases c1 : ((ds.length : Nat) : Int) < ((n : Nat) : Int)
      · rw [decide_eq_true c1]
        refine iteT (iteT ?_)
        walk_at "st"
        have e : kindD n (.tuple ds) = false := by
          show (_ && _ && _) = _
          rw [decide_eq_false (show ¬ n ≤ ds.length by omega)]
          rfl
        rw [← e]
        exact k H (Same.refl H)
      · rw [decide_eq_false c1]
        refine iteF ?_
        walk_at "st"
        refine len_tup hx hd ?_
        walk_at "st"
        by_cases c2 : (3 : Int) < ((ds.length : Nat) : Int)
        · rw [decide_eq_true c2]
          refine iteT ?_
          walk_at "st"
          have e : kindD n (.tuple ds) = false := by
            show (_ && _ && _) = _
            rw [decide_eq_false (show ¬ ds.length ≤ 3 by omega), Bool.and_false]
            rfl
          rw [← e]
          exact k H (Same.refl H)
        · rw [decide_eq_false c2]
          refine iteF ?_
          walk_at "st"
          have e : kindD n (.tuple ds) = ds.all strmD := by
            show (_ && _ && _) = _
            rw [decide_eq_true (show n ≤ ds.length by omega), decide_eq_true (show ds.length ≤ 3 by omega)]
            rfl
          rw [e] at k
          have many := hd.len
          refine ⟨⟨_, hx⟩, loop (walkT (xs := xs)) (fun i σ2 H2 => (∃ x, σ2 = [some (.ref a), some (.int (n : Nat)), x]) ∧ Same H H2 ∧ ∀ d ∈ ds.take i, strmD d = true) ⟨⟨_, rfl⟩, Same.refl H, fun d hd => by simp at hd⟩ (fun i σ2 H2 h => same_sqt h.2.1 hx) ?_ ?_⟩
          · rintro i x σ2 H2 hi hxi ⟨⟨x0, rfl⟩, m, all⟩
            obtain ⟨d, hdi, dz2⟩ := hd.get hxi
            have dm := List.mem_of_getElem? hdi
            have bad : strmD d = false → ∀ H3, Same H2 H3 → Q (.bl false) H3 := by
              intro z H3 m3
              have e2 : ds.all strmD = false := by
                rw [List.all_eq_false]
                exact ⟨d, dm, by rw [z]; exact Bool.false_ne_true⟩
              rw [← e2]
              exact k H3 (m.trans m3)
            have ld := wt_tup ln dm
            have dz3 := Dz.same m _ _ dz2
            walk_at "st"
            refine is_tup dz3 ?_ (fun no => ?_)
            · rintro es b ys rfl rfl hy he
              walk_at "st"
              refine iteF ?_
              walk_at "st"
              refine len_tup hy he ?_
              walk_at "st"
              by_cases two : es.length = 2
              · rw [decide_eq_true (show ((es.length : Nat) : Int) = 2 by omega)]
                refine iteF ?_
                obtain ⟨y, z, da, db, rfl, rfl, h1, h2⟩ := two_of he two
                have e2 : strmD (.tuple [da, db]) = (nmD da && sgD db) := rfl
                rw [e2] at bad
                walk_at "st"
                refine itemT hy (by rfl) ?_
                walk_at "st"
                refine ⟨y, da, rfl, h1, Len.of (wt_tup ld (by simp)), fun H3 m3 => ?_⟩
                refine s_bl (P := _) ?_
                cases b1 : nmD da with
                | false =>
                  refine iteT (iteT ?_)
                  walk_at "st"
                  rw [b1] at bad
                  exact bad rfl H3 m3
                | true =>
                  refine iteF ?_
                  rw [b1, Bool.true_and] at bad
                  walk_at "st"
                  refine itemT (same_sqt m3 hy) (by rfl) ?_
                  walk_at "st"
                  refine ⟨z, db, rfl, Dz.same m3 _ _ h2, Len.of (wt_tup ld (by simp)), fun H4 m4 => ?_⟩
                  refine s_bl (P := _) ?_
                  cases b2 : sgD db with
                  | false =>
                    refine iteT ?_
                    walk_at "st"
                    exact bad b2 H4 (m3.trans m4)
                  | true =>
                    refine iteF ?_
                    walk_at "st"
                    refine ⟨⟨_, rfl⟩, m.trans (m3.trans m4), fun d2 hd2 => ?_⟩
                    rw [List.take_add_one, hdi] at hd2
                    rcases List.mem_append.mp hd2 with hd2 | hd2
                    · exact all d2 hd2
                    · have e3 : d2 = .tuple [da, db] := by simpa using hd2
                      rw [e3, e2, b1, b2]
                      rfl
              · rw [decide_eq_false (show ¬ ((es.length : Nat) : Int) = 2 by omega)]
                refine iteT ?_
                walk_at "st"
                exact bad (strmD_len two) H2 (Same.refl H2)
            · walk_at "st"
              refine iteT (iteT ?_)
              walk_at "st"
              exact bad (strmD_no no) H2 (Same.refl H2)
          · rintro σ2 H2 ⟨_, m, all⟩
            walk_at "st"
            rw [many, List.take_length] at all
            have e2 : ds.all strmD = true := List.all_eq_true.mpr all
            rw [← e2]
            exact k H2 m
    · walk_at "st"
      refine iteT (iteT ?_)
      walk_at "st"
      rw [← kindD_no no]
      exact k H (Same.refl H)
abbrev s_law_are_streams : Stmt := topS 32
theorem sc_law_are_streams : FnScope ["sources", "sinks", "names", "part"] ["sources", "sinks"] (defScope s_law_are_streams) := ⟨rfl, rfl, rfl, by decide +kernel, rfl, by decide +kernel, by decide +kernel⟩
theorem ok_law_are_streams {f fp fn fs fl : Addr} {fd fdp fdn fds fdl : FuncData} (T : Txt2 mg) (D : Def K mg "_law_are_streams" s_law_are_streams ["sources", "sinks"] f fd) (D_law_are_parts : Def K mg "_law_are_parts" s_law_are_parts ["value", "least"] fp fdp)
    (D_law_is_name : Def K mg "_law_is_name" s_law_is_name ["value"] fn fdn) (D_law_is_signs : Def K mg "_law_is_signs" s_law_is_signs ["value"] fs fds) (D_law_is_letters : Def K mg "_law_is_letters" s_law_is_letters ["value", "least", "most"] fl fdl) : FnOk P w K mg base CX0 4 f fd ["sources", "sinks"] (spBoth K) := by
  have G_law_are_parts : FnOk P w K mg base CX0 3 fp fdp ["value", "least"] (spKind K) := ok_law_are_parts T D_law_are_parts D_law_is_name D_law_is_signs D_law_is_letters
  refine D.F.ok sc_law_are_streams (fun vs H Q E h => ?_) (fun cdv A outer s H vs Q E hr h => ?_)
  · obtain ⟨v, u, d, e, rfl, _⟩ := h
    rfl
  · obtain ⟨v, u, d, e, rfl, dz, dy, ld, le, k⟩ := h
    have hu := hr.units
    refine ⟨_, (pss_cons (ps_if (PW.pt (pw_or (pt_not (pt_val (pe_call G_law_are_parts (hr.mono (by decide)) (by rfl) D_law_are_parts.g D_law_are_parts.F.kp D_law_are_parts.b .nil pass0 (pa_cons (pv 0) (pa_cons pe_int pa_nil))))) (pw_or1 (pt_not (pt_val (pe_call G_law_are_parts (hr.mono (by decide)) (by rfl) D_law_are_parts.g D_law_are_parts.F.kp D_law_are_parts.b .nil pass0 (pa_cons (pv 1) (pa_cons pe_int pa_nil))))))))
  (pss_one (ps_ret pe_bl))
  pss_nil)
 (pss_cons (ps_setLc (i := 2) (own := [("part", 3)]) (by rfl) sc_law_are_streams.nd rfl rfl (sw_true rfl rfl rfl (by decide +kernel)) (pi_tup (pe_op (Z.k_add (K := K)) (pv 0) (pv 1))) (blkOk_by (own := [("part", 3)]) (N := ["sources", "sinks", "names", "part"]) (sc := defScope s_law_are_streams) (by decide +kernel))
   (fun _ _ _ _ _ => (pg_name (i := 3) sc_law_are_streams.nd rfl (by first | exact Or.inl rfl | exact Or.inr rfl))) (fun _ _ _ _ _ => pts_nil) (fun _ _ _ _ _ => (pe_ix (Z.k_item (K := K)) (pv 3) pe_int (fun _ _ => rfl))))
 (pss_one (ps_ret (pe_cmpR (Z.k_eq (K := K) hu) (Z.k_lenSet (K := K) rfl (by rfl) T.len (by rfl) T.set (pv 2)) (pe_callB (Z.k_len (K := K)) (by rfl) T.len (by decide +kernel) (pa_cons (pv 2) pa_nil)) (nomark _)))))), ?_⟩
    walk_at "st"
    refine ⟨v, d, 1, rfl, dz, ld, fun H1 m => ?_⟩
    refine s_bl (P := _) ?_
    cases b1 : kindD 1 d with
    | false =>
      refine iteT (iteT ?_)
      walk_at "st"
      rw [← strsD_no1 b1]
      exact k H1 m
    | true =>
      refine iteF ?_
      walk_at "st"
      refine ⟨u, e, 0, rfl, Dz.same m _ _ dy, le, fun H2 m2 => ?_⟩
      have m02 := m.trans m2
      refine s_bl (P := _) ?_
      cases b2 : kindD 0 e with
      | false =>
        refine iteT ?_
        walk_at "st"
        rw [← strsD_no2 b2]
        exact k H2 m02
      | true =>
        refine iteF ?_
        obtain ⟨ds, rfl, d1, d3, dg⟩ := kind_of b1
        obtain ⟨es, rfl, _, e3, eg⟩ := kind_of b2
        rw [strsD_yes b1 b2] at k
        cases dz with
        | tup ha had =>
          cases dy with
          | tup hb hbd =>
            have l1 := had.len
            have l2 := hbd.len
            walk_at "st"
            refine cat_tup (same_sqt m02 ha) (same_sqt m02 hb) (by omega) fun p H3 m3 hp => ?_
            have m03 := m02.trans m3
            walk_at "st"
            refine ⟨⟨_, hp⟩, comp_names (ds := ds ++ es) hp ((DzAll.same m03 _ _ had).app (DzAll.same m03 _ _ hbd)) ?_ (by rw [List.length_append]; omega) (fun _ => rfl) (fun _ => rfl) ?_⟩
            · intro d hd
              rcases List.mem_append.mp hd with hd | hd
              · exact dg d hd
              · exact eg d hd
            · intro L H4 fresh m4 hL
              walk_at "st"
              refine lens_eq rfl hL (by rw [List.length_map, List.length_append]; omega) ?_
              exact k H4 (m03.trans m4)
end
end Z
/-! Small texts. -/
namespace Z
open PySem PySem.Spec PyProof.Rows L2 G
/-- at most n signs, none beyond what is shown in ten -/
structure Sm (n : Nat) (z : Str) : Prop where
  len : z.length ≤ n
  sg : ∀ c ∈ z.cps.toList, c < 16 ^ 8
namespace Sm
variable {n m : Nat} {x y : Str}
theorem mono (h : Sm n x) (le : n ≤ m) : Sm m x := ⟨Nat.le_trans h.len le, h.sg⟩
theorem fit (h : Sm n x) : Fit (10 * n + 2) 0 (.str x) := by
  refine ⟨?_, ?_, ?_⟩
  · show (x.cps.toList.all fun c => decide (c < 16 ^ 8)) = true
    rw [List.all_eq_true]
    exact fun c hc => decide_eq_true (h.sg c hc)
  · simp only [wt]
    have := h.len
    omega
  · simp only [PyData.depth]
    exact Nat.le_refl 0
theorem app (h : Sm n x) (g : Sm m y) : Sm (n + m) (x ++ y) := by
  refine ⟨?_, ?_⟩
  · rw [strLen_append]
    have := h.len
    have := g.len
    omega
  · intro c hc
    have e : (x ++ y).cps = x.cps ++ y.cps := PySem.Str.cps_append x y
    rw [e, Array.toList_append] at hc
    rcases List.mem_append.mp hc with hc | hc
    · exact h.sg c hc
    · exact g.sg c hc
theorem cut (h : Sm n x) (lo hi : Option Int) : Sm n (cutS x lo hi) := by
  have e : (cutS x lo hi).cps.toList = (x.cps.toList.drop (HT.sIx x.length 0 lo)).take (HT.sIx x.length x.length hi - HT.sIx x.length 0 lo) := by
    unfold cutS
    rfl
  refine ⟨?_, ?_⟩
  · show (cutS x lo hi).cps.size ≤ n
    rw [← Array.length_toList, e, List.length_take, List.length_drop, Array.length_toList]
    have l : x.length = x.cps.size := rfl
    have := h.len
    omega
  · intro c hc
    rw [e] at hc
    exact h.sg c (List.mem_of_mem_drop (List.mem_of_mem_take hc))
theorem rev (h : Sm n x) (le : y.length ≤ x.length) (mem : ∀ c ∈ y.cps.toList, c ∈ x.cps.toList) : Sm n y := ⟨Nat.le_trans le h.len, fun c hc => h.sg c (mem c hc)⟩
theorem of_word (h : wordB n x = true) : Sm n x := by
  obtain ⟨_, l, m⟩ := wordB_len h
  refine ⟨l, fun c hc => ?_⟩
  have := m c hc
  unfold letB at this
  rw [Bool.and_eq_true, decide_eq_true_eq, decide_eq_true_eq] at this
  exact Nat.lt_of_le_of_lt this.2 (by decide)
theorem fold_size (a : Array Nat) : ∀ (k : Nat) (acc : Array Nat), ((List.replicate k a).foldl (· ++ ·) acc).size = acc.size + k * a.size ∧ ∀ c ∈ ((List.replicate k a).foldl (· ++ ·) acc).toList, c ∈ acc.toList ∨ c ∈ a.toList
  | 0, acc => by
    refine ⟨by simp, fun c hc => .inl (by simpa using hc)⟩
  | k + 1, acc => by
    obtain ⟨h1, h2⟩ := fold_size a k (acc ++ a)
    rw [List.replicate_succ, List.foldl_cons]
    refine ⟨?_, fun c hc => ?_⟩
    · rw [h1, Array.size_append, Nat.add_mul]
      omega
    · rcases h2 c hc with h | h
      · rw [Array.toList_append] at h
        exact List.mem_append.mp h
      · exact .inr h
theorem mul (h : Sm n x) {k : Nat} (k1 : 1 ≤ k) : Sm (k * n) (Txt.mul x k) := by
  have l := h.len
  unfold Txt.mul
  rw [if_neg (by omega)]
  split
  · exact h.mono (Nat.le_trans (by omega) (Nat.mul_le_mul_right n k1))
  · obtain ⟨h1, h2⟩ := fold_size x.cps k #[]
    refine ⟨?_, fun c hc => ?_⟩
    · show ((List.replicate (k : Int).toNat x.cps).foldl (· ++ ·) #[]).size ≤ _
      rw [Int.toNat_natCast, h1]
      show 0 + k * x.length ≤ _
      rw [Nat.zero_add]
      exact Nat.mul_le_mul_left k l
    · rw [Int.toNat_natCast] at hc
      rcases h2 c hc with z | z
      · exact absurd z (by simp)
      · exact h.sg c z
theorem mulOk9 (h : Sm n x) (few : n ≤ 1000000) : MulOk x 9 := by
  have l := h.len
  refine ⟨by decide, fun _ _ => ?_, fun _ _ => ?_⟩
  · omega
  · show decide (x.length * 9 > sizeLine) = false
    refine decide_eq_false ?_
    rw [sizeLine_eq]
    omega
theorem upper : ∀ (cs : List Nat), (∀ c ∈ cs, letB c = true) → Sm cs.length (Txt.upper ⟨cs.toArray⟩)
  | [], _ => by
    have e : Txt.upper ⟨([] : List Nat).toArray⟩ = ⟨#[]⟩ := by decide +kernel
    rw [e]
    exact ⟨Nat.le_refl 0, fun c hc => by simp at hc⟩
  | c :: cs, h => by
    have e : (⟨(c :: cs).toArray⟩ : Str) = (⟨#[c]⟩ : Str) ++ ⟨cs.toArray⟩ := by
      refine PySem.Str.ext' ?_
      rw [PySem.Str.cps_append]
      simp
    have hc := h c List.mem_cons_self
    unfold letB at hc
    rw [Bool.and_eq_true, decide_eq_true_eq, decide_eq_true_eq] at hc
    rw [e, PySem.W.KOpn.upper_app, PySem.W.KOpn.upper_one (by omega)]
    have one : Sm 1 (⟨#[if 97 ≤ c ∧ c ≤ 122 then c - 32 else c]⟩ : Str) := by
      refine ⟨Nat.le_refl 1, fun d hd => ?_⟩
      have e2 : d = if 97 ≤ c ∧ c ≤ 122 then c - 32 else c := by simpa using hd
      rw [e2, if_pos hc]
      omega
    have := one.app (upper cs fun d hd => h d (List.mem_cons_of_mem _ hd))
    refine this.mono ?_
    rw [List.length_cons]
    omega
theorem upper_word (h : wordB n x = true) : Sm n (Txt.upper x) := by
  obtain ⟨_, l, m⟩ := wordB_len h
  have := upper x.cps.toList m
  have e : (⟨x.cps.toList.toArray⟩ : Str) = x := by
    refine PySem.Str.ext' ?_
    simp
  rw [e] at this
  refine this.mono ?_
  rw [Array.length_toList]
  exact l
end Sm
/-! ### what fits, put together -/
theorem fitAll_of : ∀ {ds : List PyData}, (∀ d ∈ ds, fitD d = true) → fitAll ds = true
  | [], _ => by simp only [fitAll]
  | d :: ds, h => by
    simp only [fitAll, h d List.mem_cons_self, fitAll_of fun e he => h e (List.mem_cons_of_mem _ he), Bool.and_self]
theorem wtAll_of {W : Nat} : ∀ {ds : List PyData}, (∀ d ∈ ds, wt d ≤ W) → wtAll ds ≤ ds.length * (W + 2)
  | [], _ => by
    simp only [wtAll]
    exact Nat.zero_le _
  | d :: ds, h => by
    simp only [wtAll, List.length_cons]
    have a := h d List.mem_cons_self
    have b := wtAll_of fun e he => h e (List.mem_cons_of_mem _ he)
    rw [Nat.add_mul]
    omega
theorem deepAll_of {n : Nat} : ∀ {ds : List PyData}, (∀ d ∈ ds, d.depth ≤ n) → PyData.depthAll ds ≤ n
  | [], _ => by
    simp only [PyData.depthAll]
    exact Nat.zero_le _
  | d :: ds, h => by
    simp only [PyData.depthAll]
    exact Nat.max_le.mpr ⟨h d List.mem_cons_self, deepAll_of fun e he => h e (List.mem_cons_of_mem _ he)⟩
theorem Fit.tup {W n k V : Nat} {ds : List PyData} (h : ∀ d ∈ ds, Fit W n d) (len : ds.length ≤ k) (le : 3 + k * (W + 2) ≤ V) : Fit V (n + 1) (.tuple ds) := by
  refine ⟨?_, ?_, ?_⟩
  · simp only [fitD]
    exact fitAll_of fun d hd => (h d hd).fit
  · simp only [Z.wt]
    have a := wtAll_of fun d hd => (h d hd).wt
    have b := Nat.mul_le_mul_right (W + 2) len
    omega
  · simp only [PyData.depth]
    exact Nat.add_le_add_right (deepAll_of fun d hd => (h d hd).deep) 1
theorem Fit.lst {W n k V : Nat} {ds : List PyData} (h : ∀ d ∈ ds, Fit W n d) (len : ds.length ≤ k) (le : 3 + k * (W + 2) ≤ V) : Fit V (n + 1) (.list ds) := by
  refine ⟨?_, ?_, ?_⟩
  · simp only [fitD]
    exact fitAll_of fun d hd => (h d hd).fit
  · simp only [Z.wt]
    have a := wtAll_of fun d hd => (h d hd).wt
    have b := Nat.mul_le_mul_right (W + 2) len
    omega
  · simp only [PyData.depth]
    exact Nat.add_le_add_right (deepAll_of fun d hd => (h d hd).deep) 1
theorem fitKv_of : ∀ {es : List (PyData × PyData)}, (∀ e ∈ es, fitD e.1 = true ∧ fitD e.2 = true) → fitKv es = true
  | [], _ => by simp only [fitKv]
  | (k, v) :: es, h => by
    obtain ⟨a, b⟩ := h (k, v) List.mem_cons_self
    simp only [fitKv, a, b, fitKv_of fun e he => h e (List.mem_cons_of_mem _ he), Bool.and_self]
theorem wtKv_of {W : Nat} : ∀ {es : List (PyData × PyData)}, (∀ e ∈ es, wt e.1 + wt e.2 ≤ W) → wtKv es ≤ es.length * (W + 4)
  | [], _ => by
    simp only [wtKv]
    exact Nat.zero_le _
  | (k, v) :: es, h => by
    simp only [wtKv, List.length_cons]
    have a : wt k + wt v ≤ W := h (k, v) List.mem_cons_self
    have b := wtKv_of fun e he => h e (List.mem_cons_of_mem _ he)
    rw [Nat.add_mul]
    omega
theorem deepKv_of {n : Nat} : ∀ {es : List (PyData × PyData)}, (∀ e ∈ es, e.1.depth ≤ n ∧ e.2.depth ≤ n) → PyData.depthKv es ≤ n
  | [], _ => by
    simp only [PyData.depthKv]
    exact Nat.zero_le _
  | (k, v) :: es, h => by
    obtain ⟨a, b⟩ := h (k, v) List.mem_cons_self
    simp only [PyData.depthKv]
    exact Nat.max_le.mpr ⟨Nat.max_le.mpr ⟨a, b⟩, deepKv_of fun e he => h e (List.mem_cons_of_mem _ he)⟩
theorem Fit.dic {W n k V : Nat} {es : List (PyData × PyData)} (h : ∀ e ∈ es, Fit W n e.1 ∧ Fit W n e.2) (len : es.length ≤ k) (le : 2 + k * (W + W + 4) ≤ V) : Fit V (n + 1) (.dict es) := by
  refine ⟨?_, ?_, ?_⟩
  · simp only [fitD]
    exact fitKv_of fun e he => ⟨(h e he).1.fit, (h e he).2.fit⟩
  · simp only [Z.wt]
    have a := wtKv_of (W := W + W) fun e he => Nat.add_le_add (h e he).1.wt (h e he).2.wt
    have b := Nat.mul_le_mul_right (W + W + 4) len
    omega
  · simp only [PyData.depth]
    exact Nat.add_le_add_right (deepKv_of fun e he => ⟨(h e he).1.deep, (h e he).2.deep⟩) 1
theorem Fit.none {W n : Nat} (h : 4 ≤ W) : Fit W n .none := ⟨by simp only [fitD], by simp only [Z.wt]; exact h, by simp only [PyData.depth]; exact Nat.zero_le _⟩
theorem Fit.bool {W n : Nat} {b : Bool} (h : 5 ≤ W) : Fit W n (.bool b) := ⟨by simp only [fitD], by simp only [Z.wt]; exact h, by simp only [PyData.depth]; exact Nat.zero_le _⟩
theorem Fit.int {W n : Nat} {i : Int} (h : i.natAbs.log2 < 1920) (le : (toString i : Str).length ≤ W) : Fit W n (.int i) :=
  ⟨by simp only [fitD]; exact decide_eq_true h, by simp only [Z.wt]; exact le, by simp only [PyData.depth]; exact Nat.zero_le _⟩
end Z
namespace Z
open PySem PySem.Spec PyProof.Rows L2 G
section
variable {P : Program} {w : World} {K : PySem.W.Frag} {mg : Str → Option Value} {base : Heap}
/-- data of such a weight and depth, apart from the pot -/
def Pk (K : PySem.W.Frag) (a : Addr) (W n : Nat) (H : Hp) (v : V) : Prop := ∃ d, Dz K (hid a H) v d ∧ Fit W n d
theorem Pk.mv {a : Addr} {W n : Nat} {H H1 : Hp} {v : V} (h : Pk K a W n H v) (m : Mv a H H1) : Pk K a W n H1 v :=
  let ⟨d, x, f⟩ := h
  ⟨d, x.mv m, f⟩
theorem Pk.str {a : Addr} {W n k : Nat} {H : Hp} {z : Str} (h : Sm k z) (le : 10 * k + 2 ≤ W) : Pk K a W n H (.str z) := ⟨.str z, .str z, h.fit.mono le (Nat.zero_le _)⟩
theorem sm_all {k : Nat} {zs : List Str} (h : (zs.all fun z => decide (z.length ≤ k) && z.cps.toList.all fun c => decide (c < 16 ^ 8)) = true) : ∀ z ∈ zs, Sm k z := by
  intro z hz
  have := List.all_eq_true.mp h z hz
  rw [Bool.and_eq_true, decide_eq_true_eq, List.all_eq_true] at this
  exact ⟨this.1, fun c hc => of_decide_eq_true (this.2 c hc)⟩
/-- a list put behind another -/
theorem cat_lst {H : Hp} {Q : VK} {a b : Addr} {xs ys : List V} (ha : H a = some (.lst xs)) (hb : H b = some (.lst ys)) (few : xs.length + ys.length ≤ 1000) (q : ∀ p, H p = none → Q (.ref p) (upd H p (.lst (xs ++ ys)))) : Z.rAdd K (.ref a) (.ref b) H Q :=
  .inl ⟨a, b, xs, ys, rfl, rfl, ha, hb, by rw [sizeLine_eq]; omega, q⟩
theorem s_dnew {σ : L2.St} {H : Hp} {Q : VK} (q : ∀ p, H p = none → Q (.ref p) (upd H p (.dK []))) : tDNewK σ H Q := q
theorem s_disp {σ : L2.St} {H : Hp} {Q : VK} {trs : List (TE × TE)} (q : ∀ p, H p = none → tPairs trs σ (upd H p (.dK [])) fun ps H2 => H2 p = some (.dK []) ∧ ∃ kvs : List (Key × V), ps = kvs.map (fun kv => (kV kv.1, kv.2)) ∧ kvs.length ≤ 15 ∧ Q (.ref p) (upd H2 p (.dK (mergeK [] kvs)))) : tDisp trs σ H Q := q
theorem cutQ {n : Nat} {x : Str} {lo hi : Option Int} {H : Hp} {Q : VK} (h : Sm n x) (few : n ≤ 100000) (q : ∀ y, Sm n y → Q (.str y) H) : Z.rCut K (.str x) lo hi H Q := by
  refine ⟨?_, q _ (h.cut lo hi)⟩
  have := h.len
  rw [sizeLine_eq]
  omega
theorem addQ {n m : Nat} {x y : Str} {H : Hp} {Q : VK} (h : Sm n x) (g : Sm m y) (few : n + m ≤ 100000) (q : ∀ w, Sm (n + m) w → Q (.str w) H) : Z.rAdd K (.str x) (.str y) H Q := by
  refine ⟨?_, q _ (h.app g)⟩
  have := h.len
  have := g.len
  rw [sizeLine_eq]
  omega
theorem revQ {n : Nat} {x : Str} {σ : L2.St} {i : Nat} {H : Hp} {Q : VK} (hi : σ[i]? = some (some (.str x))) (h : Sm n x) (few : n ≤ 100000) (q : ∀ y, Sm n y → Q (.str y) H) : tRevS (tVar i) σ H Q := by
  refine ⟨.str x, hi, x, rfl, ?_, fun y l m => q y (h.rev l m)⟩
  have := h.len
  rw [sizeLine_eq]
  omega
/-- an odd value in place of a text -/
def spOdd (K : PySem.W.Frag) : Sp := fun vs H Q _ => ∃ a z, vs = [.ref a, .str z] ∧ Pot a H ∧ wordB 8 z = true ∧ ∀ H1 v, Mv a H H1 → Pk K a 100000 1 H1 v → Q v H1
abbrev s_law_odd_text : Stmt := topS 33
theorem sc_law_odd_text : FnScope ["pot", "word", "at", "char", "some"] ["pot", "word"] (defScope s_law_odd_text) := ⟨rfl, rfl, rfl, by decide +kernel, rfl, by decide +kernel, by decide +kernel⟩
theorem ok_odd_text {f fdip fch : Addr} {fd fddip fdch : FuncData} (T : Txt2 mg) (D : Def K mg "_law_odd_text" s_law_odd_text ["pot", "word"] f fd) (D_law_dip : Def K mg "_law_dip" s_law_dip ["pot", "total"] fdip fddip) (D_law_choose : Def K mg "_law_choose" s_law_choose ["pot", "items"] fch fdch) : FnOk P w K mg base CX0 3 f fd ["pot", "word"] (spOdd K) := by
  have G_law_dip : FnOk P w K mg base CX0 1 fdip fddip ["pot", "total"] spDip := ok_dip T.toTxt D_law_dip
  have G_law_choose : FnOk P w K mg base CX0 2 fch fdch ["pot", "items"] (spChoose K) := ok_choose T.toTxt D_law_choose D_law_dip
  refine D.F.ok sc_law_odd_text (fun vs H Q E h => ?_) (fun cdv A outer s H vs Q E hr h => ?_)
  · obtain ⟨a, z, rfl, _⟩ := h
    rfl
  · obtain ⟨a, z, rfl, pot, word, k⟩ := h
    have hu := (hr.units)
    obtain ⟨z0, z8, _⟩ := wordB_len word
    have sz : z.length ≤ sizeLine := by
      rw [sizeLine_eq]
      omega
    have sm := Sm.of_word word
    refine ⟨_, (pss_cons (ps_par (i := 2) (j := 3) (by rfl) sc_law_odd_text.nd rfl rfl (by decide) rfl rfl (pa_cons (pe_call G_law_dip (hr.mono (by decide)) (by rfl) D_law_dip.g D_law_dip.F.kp D_law_dip.b .nil pass0 (pa_cons (pv 0) (pa_cons (pe_op (Z.k_add (K := K)) (pe_callB (Z.k_len (K := K)) (by rfl) T.len (by decide +kernel) (pa_cons (pv 1) pa_nil)) pe_int) pa_nil))) (pa_cons (pe_call G_law_choose (hr.mono (by decide)) (by rfl) D_law_choose.g D_law_choose.F.kp D_law_choose.b .nil pass0 (pa_cons (pv 0) (pa_cons (pe_lst (pa_cons pe_str (pa_cons pe_str (pa_cons pe_str (pa_cons pe_str (pa_cons pe_str (pa_cons pe_str (pa_cons pe_str (pa_cons pe_str (pa_cons pe_str (pa_cons pe_str (pa_cons pe_str pa_nil)))))))))))) pa_nil))) pa_nil)) (by rfl))
 (pss_cons (ps_set (i := 4) sc_law_odd_text.nd rfl (by first | exact Or.inl rfl | exact Or.inr rfl) (pe_lst (pa_cons (pe_op (Z.k_add (K := K)) (pe_op (Z.k_add (K := K)) (pe_slice (Z.k_cut (K := K)) (pv 1) po_none (po_some (pv 2))) (pv 3)) (pe_slice (Z.k_cut (K := K)) (pv 1) (po_some (pv 2)) po_none)) (pa_cons (pe_op (Z.k_add (K := K)) (pe_slice (Z.k_cut (K := K)) (pv 1) po_none (po_some (pv 2))) (pe_slice (Z.k_cut (K := K)) (pv 1) (po_some (pe_op (Z.k_add (K := K)) (pv 2) pe_int)) po_none)) (pa_cons (pe_op (Z.k_add (K := K)) (pv 1) (pv 1)) (pa_cons (Z.pe_revS (pv 1)) (pa_cons (pe_op Z.op_mul (pv 1) pe_int) (pa_cons (pe_upper (pv 1)) pa_nil))))))))
 (pss_cons (ps_set (i := 4) sc_law_odd_text.nd rfl (by first | exact Or.inl rfl | exact Or.inr rfl) (pe_op (Z.k_add (K := K)) (pv 4) (pe_lst (pa_cons pe_str (pa_cons pe_str (pa_cons pe_str (pa_cons pe_str (pa_cons pe_str (pa_cons pe_str (pa_cons pe_str (pa_cons pe_str (pa_cons pe_str (pa_cons pe_str (pa_cons pe_str (pa_cons pe_str (pa_cons pe_str pa_nil))))))))))))))))
 (pss_cons (ps_set (i := 4) sc_law_odd_text.nd rfl (by first | exact Or.inl rfl | exact Or.inr rfl) (pe_op (Z.k_add (K := K)) (pv 4) (pe_lst (pa_cons pe_non (pa_cons pe_int (pa_cons pe_bl (pa_cons (pe_tup pa_nil) (pa_cons (pe_lst pa_nil) (pa_cons pe_dnewK (pa_cons (pe_tup (pa_cons (pv 1) pa_nil)) (pa_cons (pe_lst (pa_cons (pv 1) pa_nil)) (pa_cons (pe_disp (pps_cons (pv 1) pe_int pps_nil) (by rfl) (by rfl) (fun z => by cases z) (by decide)) (pa_cons (pe_tup (pa_cons pe_str (pa_cons pe_str pa_nil))) (pa_cons (pe_op Z.op_mul pe_str pe_int) (pa_cons (pe_op Z.op_pow pe_int pe_int) (pa_cons pe_str pa_nil))))))))))))))))
 (pss_one (ps_ret (pe_call G_law_choose (hr.mono (by decide)) (by rfl) D_law_choose.g D_law_choose.F.kp D_law_choose.b .nil pass0 (pa_cons (pv 0) (pa_cons (pe_op (Z.k_add (K := K)) (pv 4) (pe_lst (pa_cons (pv 1) (pa_cons (pv 1) (pa_cons (pv 1) pa_nil))))) pa_nil))))))))), ?_⟩
    walk_at "st"
    refine ⟨sz, ?_⟩
    walk_at "st"
    refine ⟨a, _, rfl, pot, by omega, by omega, fun H1 r m1 r0 r1 => ?_⟩
    walk_at "st"
    refine ⟨by show 11 ≤ sizeLine; decide, fun p np => ?_⟩
    have m2 : Mv a H (upd H1 p (.lst (oneOf ["a", "z", "A", " ", "0", "`", "{", "\n", "-", "", "e"]))) := m1.new np
    walk_at "st"
    refine ⟨a, m2.pot, .inl ⟨p, oneOf ["a", "z", "A", " ", "0", "`", "{", "\n", "-", "", "e"], rfl, Beside.lst (Mv.ne pot m1 np) upd_same, by decide, by decide, fun H2 v mc hv => ?_⟩⟩
    obtain ⟨ch, rfl, hch⟩ := one_of (P := Sm 1) (sm_all (by decide +kernel)) hv
    have m3 := m2.trans mc
    walk_at "st"
    refine cutQ sm (by decide) fun t1 s1 => ?_
    walk_at "st"
    refine addQ s1 hch (by decide) fun t2 s2 => ?_
    walk_at "st"
    refine cutQ sm (by decide) fun t3 s3 => ?_
    refine addQ s2 s3 (by decide) fun t4 s4 => ?_
    walk_at "st"
    refine cutQ sm (by decide) fun t5 s5 => ?_
    walk_at "st"
    refine cutQ sm (by decide) fun t6 s6 => ?_
    refine addQ s5 s6 (by decide) fun t7 s7 => ?_
    walk_at "st"
    refine addQ sm sm (by decide) fun t8 s8 => ?_
    walk_at "st"
    refine revQ rfl sm (by decide) fun t9 s9 => ?_
    walk_at "st"
    refine ⟨sm.mulOk9 (by decide), ?_⟩
    have s10 : Sm (9 * 8) (Txt.mul z 9) := sm.mul (k := 9) (by decide)
    generalize Txt.mul z 9 = t10 at s10 ⊢
    walk_at "st"
    refine ⟨rfl, by omega, ?_⟩
    have s11 := Sm.upper_word word
    generalize Txt.upper z = t11 at s11 ⊢
    walk_at "st"
    refine ⟨by show 6 ≤ sizeLine; decide, fun p6 np6 => ?_⟩
    generalize e6 : upd H2 p6 _ = H6
    have m4 : Mv a H H6 := by rw [← e6]; exact m3.new np6
    have at6 : H6 p6 = some (.lst [.str t4, .str t7, .str t8, .str t9, .str t10, .str t11]) := by rw [← e6]; exact upd_same
    walk_at "st"
    refine ⟨by show 13 ≤ sizeLine; decide, fun p7 np7 => ?_⟩
    generalize e7 : upd H6 p7 _ = H7
    have m5 : Mv a H H7 := by rw [← e7]; exact m4.new np7
    have at7 : H7 p7 = some (.lst (oneOf ["", "end", "End", "en", "ends", "abcd", "abcde", "abcdefgh", "abcdefghi", "ba", "aa", "az", "z"])) := by rw [← e7]; exact upd_same
    have at67 : H7 p6 = some (.lst [.str t4, .str t7, .str t8, .str t9, .str t10, .str t11]) := by
      rw [← e7, upd_ne (ne_of_none at6 np7)]
      exact at6
    obtain ⟨some6, es6⟩ : ∃ xs : List V, xs = [.str t4, .str t7, .str t8, .str t9, .str t10, .str t11] ++ oneOf ["", "end", "End", "en", "ends", "abcd", "abcde", "abcdefgh", "abcdefghi", "ba", "aa", "az", "z"] := ⟨_, rfl⟩
    have k6 : ∀ H6 : Hp, ∀ v ∈ some6, Pk K a 100000 1 H6 v := by
      rw [es6]
      intro H6 v hv
      rcases List.mem_append.mp hv with hv | hv
      · simp only [List.mem_cons, List.not_mem_nil, or_false] at hv
        rcases hv with rfl | rfl | rfl | rfl | rfl | rfl
        · exact Pk.str s4 (by decide)
        · exact Pk.str s7 (by decide)
        · exact Pk.str s8 (by decide)
        · exact Pk.str s9 (by decide)
        · exact Pk.str s10 (by decide)
        · exact Pk.str s11 (by decide)
      · obtain ⟨y, rfl, hy⟩ := one_of (P := Sm 9) (sm_all (by decide +kernel)) hv
        exact Pk.str hy (by decide)
    have l6 : some6.length = 19 := by
      rw [es6]
      rfl
    refine cat_lst at67 at7 (by show 6 + 13 ≤ 1000; decide) fun p8 np8 => ?_
    rw [← es6]
    generalize e8 : upd H7 p8 _ = H8
    have m6 : Mv a H H8 := by rw [← e8]; exact m5.new np8
    have at8 : H8 p8 = some (.lst some6) := by rw [← e8]; exact upd_same
    clear e6 e7 e8 at6 at7 at67 es6
    walk_at "st"
    refine ⟨by show 0 ≤ sizeLine; decide, fun q1 nq1 => ?_⟩
    generalize e1 : upd H8 q1 _ = G1
    have n1 : Mv a H8 G1 := by rw [← e1]; exact (Mv.refl m6.pot).new nq1
    have a1 : G1 q1 = some (.tup []) := by rw [← e1]; exact upd_same
    have ne1 := Mv.ne pot m6 nq1
    walk_at "st"
    refine ⟨by show 0 ≤ sizeLine; decide, fun q2 nq2 => ?_⟩
    generalize e2 : upd G1 q2 _ = G2
    have n2 : Mv a G1 G2 := by rw [← e2]; exact (Mv.refl n1.pot).new nq2
    have a2 : G2 q2 = some (.lst []) := by rw [← e2]; exact upd_same
    have ne2 := Mv.ne pot (m6.trans n1) nq2
    walk_at "st"
    refine s_dnew fun q3 nq3 => ?_
    generalize e3 : upd G2 q3 _ = G3
    have n3 : Mv a G2 G3 := by rw [← e3]; exact (Mv.refl n2.pot).new nq3
    have a3 : G3 q3 = some (.dK []) := by rw [← e3]; exact upd_same
    have m7 := ((m6.trans n1).trans n2).trans n3
    have ne3 := Mv.ne pot ((m6.trans n1).trans n2) nq3
    walk_at "st"
    refine ⟨by show 1 ≤ sizeLine; decide, fun q4 nq4 => ?_⟩
    generalize e4 : upd G3 q4 _ = G4
    have n4 : Mv a G3 G4 := by rw [← e4]; exact (Mv.refl n3.pot).new nq4
    have a4 : G4 q4 = some (.tup [.str z]) := by rw [← e4]; exact upd_same
    have ne4 := Mv.ne pot m7 nq4
    walk_at "st"
    refine ⟨by show 1 ≤ sizeLine; decide, fun q5 nq5 => ?_⟩
    generalize e5 : upd G4 q5 _ = G5
    have n5 : Mv a G4 G5 := by rw [← e5]; exact (Mv.refl n4.pot).new nq5
    have a5 : G5 q5 = some (.lst [.str z]) := by rw [← e5]; exact upd_same
    have m8 := (m7.trans n4).trans n5
    have ne5 := Mv.ne pot (m7.trans n4) nq5
    walk_at "st"
    refine s_disp fun q6 nq6 => ?_
    show tVar 1 _ _ _
    walk_at "st"
    refine ⟨upd_same, [(.inr z, .int 1)], rfl, by show 1 ≤ 15; decide, ?_⟩
    rw [show mergeK [] [((.inr z : Key), V.int 1)] = [(.inr z, .int 1)] from rfl]
    generalize e6 : upd (upd G5 q6 _) q6 _ = G6
    have n6 : Mv a G5 G6 := by rw [← e6, upd_upd]; exact (Mv.refl n5.pot).new nq6
    have a6 : G6 q6 = some (.dK [(.inr z, .int 1)]) := by rw [← e6]; exact upd_same
    have ne6 := Mv.ne pot m8 nq6
    walk_at "st"
    refine ⟨by show 2 ≤ sizeLine; decide, fun q7 nq7 => ?_⟩
    generalize e7 : upd G6 q7 _ = G7
    have n7 : Mv a G6 G7 := by rw [← e7]; exact (Mv.refl n6.pot).new nq7
    have a7 : G7 q7 = some (.tup (oneOf ["a", "b"])) := by rw [← e7]; exact upd_same
    have m9 := (m8.trans n6).trans n7
    have ne7 := Mv.ne pot (m8.trans n6) nq7
    walk_at "st"
    refine ⟨⟨by decide, fun _ _ => by decide +kernel, fun _ _ => by decide +kernel⟩, ?_⟩
    have s12 : Sm (9000 * 1) (Txt.mul (Str.ofString "a") 9000) := Sm.mul (k := 9000) (sm_all (zs := ["a"]) (by decide +kernel) _ (List.mem_singleton.mpr rfl)) (by decide)
    generalize Txt.mul (Str.ofString "a") 9000 = t12 at s12 ⊢
    walk_at "st"
    refine a_pow ⟨⟨by decide, by decide +kernel⟩, ?_⟩
    walk_at "st"
    refine ⟨by show 13 ≤ sizeLine; decide, fun p9 np9 => ?_⟩
    generalize e9 : upd G7 p9 _ = G9
    have n9 : Mv a G7 G9 := by rw [← e9]; exact (Mv.refl n7.pot).new np9
    obtain ⟨l3, el3⟩ : ∃ xs : List V, xs = [V.non, V.int 0, V.bl true, V.ref q1, V.ref q2, V.ref q3, V.ref q4, V.ref q5, V.ref q6, V.ref q7, V.str t12, V.int (10 ^ (60 : Int).toNat), V.str (Str.ofString "az{")] := ⟨_, rfl⟩
    have a9 : G9 p9 = some (.lst l3) := by rw [← e9, el3]; exact upd_same
    have ap8 : p8 ≠ a := fun e => by
      obtain ⟨_, _, _, e2, _⟩ := m6.pot
      rw [e] at at8
      rw [at8] at e2
      injection e2 with e2
      injection e2 with e2
      rw [e2] at l6
      exact absurd l6 (by decide : ¬ (3 = 19))
    have nn := ((((((n1.trans n2).trans n3).trans n4).trans n5).trans n6).trans n7).trans n9
    have at9 := nn.at ap8 at8
    have l13 : l3.length = 13 := by
      rw [el3]
      rfl
    refine cat_lst at9 a9 (by omega) fun p10 np10 => ?_
    have m10 := m9.trans n9
    generalize e10 : upd G9 p10 _ = G10
    have n10 : Mv a G9 G10 := by rw [← e10]; exact (Mv.refl n9.pot).new np10
    have a10 : G10 p10 = some (.lst (some6 ++ l3)) := by rw [← e10]; exact upd_same
    have ne10 := Mv.ne pot m10 np10
    walk_at "st"
    refine ⟨by show 3 ≤ sizeLine; decide, fun p11 np11 => ?_⟩
    generalize e11 : upd G10 p11 _ = G11
    have n11 : Mv a G10 G11 := by rw [← e11]; exact (Mv.refl n10.pot).new np11
    have a11 : G11 p11 = some (.lst [.str z, .str z, .str z]) := by rw [← e11]; exact upd_same
    refine cat_lst (n11.at ne10 a10) a11 (by rw [List.length_append, l6, l13]; show 19 + 13 + 3 ≤ 1000; decide) fun p12 np12 => ?_
    generalize e12 : upd G11 p12 _ = G12
    have n12 : Mv a G11 G12 := by rw [← e12]; exact (Mv.refl n11.pot).new np12
    have a12 : G12 p12 = some (.lst (some6 ++ l3 ++ [.str z, .str z, .str z])) := by rw [← e12]; exact upd_same
    have m11 := (m10.trans n10).trans n11
    have ne12 := Mv.ne pot m11 np12
    have m12 := m11.trans n12
    walk_at "st"
    refine ⟨a, m12.pot, .inl ⟨p12, some6 ++ l3 ++ [.str z, .str z, .str z], rfl, Beside.lst ne12 a12, by rw [List.length_append, List.length_append, l6, l13]; show 0 < 19 + 13 + 3; decide, by rw [List.length_append, List.length_append, l6, l13]; show 19 + 13 + 3 < 1000000; decide, fun H13 v mc hv => ?_⟩⟩
    have nc := ((n10.trans n11).trans n12).trans mc
    refine k H13 v (m12.trans mc) ?_
    have pz : Pk K a 100000 1 H13 (.str z) := Pk.str sm (by decide)
    rcases List.mem_append.mp hv with hv | hv
    · rcases List.mem_append.mp hv with hv | hv
      · exact k6 H13 v hv
      · rw [el3] at hv
        have to7 := n7.trans (n9.trans nc)
        have f0 : Fit 100000 0 (.str z) := sm.fit.mono (by decide) (Nat.le_refl _)
        have t : ∀ {q : Addr} {xs : List V} {ds : List PyData}, q ≠ a → H13 q = some (.tup xs) → DzAll K (hid a H13) xs ds → Fit 100000 1 (.tuple ds) → Pk K a 100000 1 H13 (.ref q) := by
          intro q xs ds ne e z f
          refine ⟨_, .tup (SqT.of ?_) z, f⟩
          rw [hid_ne ne]
          exact e
        have l : ∀ {q : Addr} {xs : List V} {ds : List PyData}, q ≠ a → H13 q = some (.lst xs) → DzAll K (hid a H13) xs ds → Fit 100000 1 (.list ds) → Pk K a 100000 1 H13 (.ref q) := by
          intro q xs ds ne e z f
          refine ⟨_, .lst (SqL.of ?_) z, f⟩
          rw [hid_ne ne]
          exact e
        have to6 := n6.trans to7
        have to5 := n5.trans to6
        have to4 := n4.trans to5
        have to3 := n3.trans to4
        have to2 := n2.trans to3
        have one : Fit 82 0 (.str z) := sm.fit
        have i1 : Fit 82 0 (.int 1) := Fit.int (by decide +kernel) (by decide +kernel)
        have sab : ∀ d ∈ [PyData.str (Str.ofString "a"), .str (Str.ofString "b")], Fit 82 0 d := by
          intro d hd
          simp only [List.mem_cons, List.not_mem_nil, or_false] at hd
          rcases hd with rfl | rfl
          · exact (sm_all (k := 1) (zs := ["a"]) (by decide +kernel) _ (List.mem_singleton.mpr rfl)).fit.mono (by decide) (Nat.le_refl _)
          · exact (sm_all (k := 1) (zs := ["b"]) (by decide +kernel) _ (List.mem_singleton.mpr rfl)).fit.mono (by decide) (Nat.le_refl _)
        have s1 : ∀ d ∈ [PyData.str z], Fit 82 0 d := by
          intro d hd
          rw [List.mem_singleton.mp hd]
          exact one
        simp only [List.mem_cons, List.not_mem_nil, or_false] at hv
        rcases hv with rfl | rfl | rfl | rfl | rfl | rfl | rfl | rfl | rfl | rfl | rfl | rfl | rfl
        · exact ⟨.none, .non, Fit.none (by decide)⟩
        · exact ⟨.int 0, .int 0, Fit.int (by decide +kernel) (by decide +kernel)⟩
        · exact ⟨.bool true, .bl true, Fit.bool (by decide)⟩
        · exact t ne1 (to2.at ne1 a1) .nil (Fit.tup (W := 0) (k := 0) (fun d hd => nomatch hd) (Nat.le_refl _) (by decide))
        · exact l ne2 (to3.at ne2 a2) .nil (Fit.lst (W := 0) (k := 0) (fun d hd => nomatch hd) (Nat.le_refl _) (by decide))
        · refine ⟨.dict [], .dic ((hid_ne ne3).trans (to4.at ne3 a3)) .nil .nil, Fit.dic (W := 0) (k := 0) (fun d hd => nomatch hd) (Nat.le_refl _) (by decide)⟩
        · exact t ne4 (to5.at ne4 a4) (DzAll.strs [z]) (Fit.tup s1 (Nat.le_refl _) (by show 3 + 1 * (82 + 2) ≤ 100000; decide))
        · exact l ne5 (to6.at ne5 a5) (DzAll.strs [z]) (Fit.lst s1 (Nat.le_refl _) (by show 3 + 1 * (82 + 2) ≤ 100000; decide))
        · refine ⟨.dict [(.str z, .int 1)], .dic ((hid_ne ne6).trans (to7.at ne6 a6)) (.cons (.str z) .nil) (.cons (.int 1) .nil), Fit.dic (W := 82) (k := 1) (fun e he => ?_) (Nat.le_refl _) (by decide)⟩
          rw [List.mem_singleton.mp he]
          exact ⟨one, i1⟩
        · exact t ne7 ((n9.trans nc).at ne7 a7) (DzAll.strs ["a", "b"]) (Fit.tup sab (Nat.le_refl _) (by show 3 + 2 * (82 + 2) ≤ 100000; decide))
        · exact Pk.str s12 (by decide)
        · exact ⟨.int (10 ^ (60 : Int).toNat), .int _, Fit.int (by decide +kernel) (by decide +kernel)⟩
        · exact Pk.str (k := 3) (sm_all (k := 3) (zs := ["az{"]) (by decide +kernel) _ (List.mem_singleton.mpr rfl)) (by decide)
    · simp only [List.mem_cons, List.not_mem_nil, or_false] at hv
      rcases hv with rfl | rfl | rfl <;> exact pz
end
end Z
namespace Z
open PySem PySem.Spec PyProof.Rows L2 G
section
variable {P : Program} {w : World} {K : PySem.W.Frag} {mg : Str → Option Value} {base : Heap}
def rDictP (K : PySem.W.Frag) : List V → Hp → VK → Prop := fun xs H Q => ∃ (a : Addr) (ps : List Addr) (kvs : List (Key × V)), xs = [.ref a] ∧ SqL K H a (ps.map V.ref) ∧ Paired (fun p kv => SqT K H p [kV kv.1, kv.2]) ps kvs ∧ ∀ p, H p = none → Q (.ref p) (upd H p (.dK (mergeK [] kvs)))
theorem k_dictP {X : Cx} (hc : X.calm = true) (h : X.K = K := by rfl) : CallR X (.type "dict") (rDictP K) := by
  subst h
  exact call_dictP hc
theorem mem_cut {xs : List V} {lo hi : Option Int} {v : V} (h : v ∈ cutV xs lo hi) : v ∈ xs := by
  unfold cutV at h
  exact List.mem_of_mem_drop (List.mem_of_mem_take h)
/-- a slice of a tuple beside the pot -/
theorem cutM {a p : Addr} {H : Hp} {Q : VK} {xs : List V} {lo hi : Option Int} (pot : Pot a H) (h : SqT K (hid a H) p xs) (q : ∀ r H1, Mv a H H1 → SqT K (hid a H1) r (cutV xs lo hi) → Q (.ref r) H1) : Z.rCut K (.ref p) lo hi H Q := by
  refine .inr ⟨p, xs, rfl, sqt_unhid h, ?_, ?_⟩
  · rintro ⟨e1, e2⟩
    refine q p H (Mv.refl pot) ?_
    have e : cutV xs lo hi = xs := by
      unfold cutV
      rw [e1, e2, Nat.sub_zero, List.drop_zero, List.take_length]
    rw [e]
    exact h
  · intro _ r nr
    have m : Mv a H _ := (Mv.refl pot).new (o := .tup (cutV xs lo hi)) nr
    refine q r _ m (SqT.of ?_)
    rw [hid_ne (Mv.ne pot (Mv.refl pot) nr)]
    exact upd_same
theorem sqt_mv {a p : Addr} {H H1 : Hp} {xs : List V} (h : SqT K (hid a H) p xs) (m : Mv a H H1) : SqT K (hid a H1) p xs := same_sqt m.same h
/-- a tuple behind a tuple, beside the pot -/
theorem catM {a b c : Addr} {H : Hp} {Q : VK} {xs ys : List V} (pot : Pot a H) (hb : SqT K (hid a H) b xs) (hc : SqT K (hid a H) c ys) (few : xs.length + ys.length ≤ 1000) (q : ∀ r H1, Mv a H H1 → SqT K (hid a H1) r (xs ++ ys) → Q (.ref r) H1) : Z.rAdd K (.ref b) (.ref c) H Q := by
  refine .inr ⟨b, c, xs, ys, rfl, rfl, sqt_unhid hb, sqt_unhid hc, by rw [sizeLine_eq]; omega, ?_, ?_, ?_⟩
  · rintro rfl
    exact q c H (Mv.refl pot) hc
  · rintro _ rfl
    refine q b H (Mv.refl pot) ?_
    rw [List.append_nil]
    exact hb
  · intro _ _ r nr
    have m : Mv a H _ := (Mv.refl pot).new (o := .tup (xs ++ ys)) nr
    refine q r _ m (SqT.of ?_)
    rw [hid_ne (Mv.ne pot (Mv.refl pot) nr)]
    exact upd_same
/-- a drawn pair: a name and signs -/
def PrV (K : PySem.W.Frag) (a : Addr) (H : Hp) (v : V) : Prop := ∃ b z y, v = .ref b ∧ SqT K (hid a H) b [.str z, .str y] ∧ nameB z = true ∧ signsB y = true
theorem PrV.mv {a : Addr} {H H1 : Hp} {v : V} (h : PrV K a H v) (m : Mv a H H1) : PrV K a H1 v :=
  let ⟨b, z, y, e, s, n, g⟩ := h
  ⟨b, z, y, e, sqt_mv s m, n, g⟩
theorem pks {a : Addr} {W n : Nat} {H : Hp} : ∀ {xs : List V}, (∀ v ∈ xs, Pk K a W n H v) → ∃ ds, DzAll K (hid a H) xs ds ∧ ∀ d ∈ ds, Fit W n d
  | [], _ => ⟨[], .nil, fun d hd => nomatch hd⟩
  | v :: xs, h => by
    obtain ⟨d, dz, f⟩ := h v List.mem_cons_self
    obtain ⟨ds, dzs, fs⟩ := pks fun u hu => h u (List.mem_cons_of_mem _ hu)
    refine ⟨d :: ds, .cons dz dzs, fun e he => ?_⟩
    rcases List.mem_cons.mp he with he | he
    · rw [he]
      exact f
    · exact fs e he
theorem Pk.tup {a p : Addr} {W n k V : Nat} {H : Hp} {xs : List L2.V} (h : SqT K (hid a H) p xs) (all : ∀ v ∈ xs, Pk K a W n H v) (len : xs.length ≤ k) (le : 3 + k * (W + 2) ≤ V) : Pk K a V (n + 1) H (.ref p) := by
  obtain ⟨ds, dz, f⟩ := pks all
  exact ⟨.tuple ds, .tup h dz, Fit.tup f (by rw [← dz.len]; exact len) le⟩
theorem Pk.lst {a p : Addr} {W n k V : Nat} {H : Hp} {xs : List L2.V} (h : SqL K (hid a H) p xs) (all : ∀ v ∈ xs, Pk K a W n H v) (len : xs.length ≤ k) (le : 3 + k * (W + 2) ≤ V) : Pk K a V (n + 1) H (.ref p) := by
  obtain ⟨ds, dz, f⟩ := pks all
  exact ⟨.list ds, .lst h dz, Fit.lst f (by rw [← dz.len]; exact len) le⟩
theorem Pk.mono {a : Addr} {W W2 n n2 : Nat} {H : Hp} {v : V} (h : Pk K a W n H v) (l1 : W ≤ W2) (l2 : n ≤ n2) : Pk K a W2 n2 H v :=
  let ⟨d, x, f⟩ := h
  ⟨d, x, f.mono l1 l2⟩
theorem pk_word {a : Addr} {H : Hp} {z : Str} (h : wordB 8 z = true) : Pk K a 82 0 H (.str z) := Pk.str (Sm.of_word h) (by decide)
theorem name_w {z : Str} (h : nameB z = true) : wordB 8 z = true := by
  unfold nameB at h
  rw [Bool.and_eq_true] at h
  exact h.1
theorem signs_w {z : Str} (h : signsB z = true) : wordB 8 z = true := by
  unfold signsB at h
  rw [Bool.and_eq_true] at h
  have h1 := h.1
  unfold wordB at h1 ⊢
  simp only [Bool.and_eq_true, decide_eq_true_eq] at h1 ⊢
  exact ⟨⟨h1.1.1, Nat.le_trans h1.1.2 (by decide)⟩, h1.2⟩
theorem pk_two {a b : Addr} {W n V : Nat} {H : Hp} {x y : L2.V} (h : SqT K (hid a H) b [x, y]) (hx : Pk K a W n H x) (hy : Pk K a W n H y) (le : 3 + 2 * (W + 2) ≤ V) : Pk K a V (n + 1) H (.ref b) := by
  refine Pk.tup h (fun v hv => ?_) (Nat.le_refl _) le
  simp only [List.mem_cons, List.not_mem_nil, or_false] at hv
  rcases hv with rfl | rfl
  · exact hx
  · exact hy
theorem pk_one {a b : Addr} {W n V : Nat} {H : Hp} {x : L2.V} (h : SqT K (hid a H) b [x]) (hx : Pk K a W n H x) (le : 3 + 1 * (W + 2) ≤ V) : Pk K a V (n + 1) H (.ref b) := by
  refine Pk.tup h (fun v hv => ?_) (Nat.le_refl _) le
  rw [List.mem_singleton.mp hv]
  exact hx
theorem PrV.pk {a : Addr} {H : Hp} {v : V} (h : PrV K a H v) : Pk K a 200 1 H v := by
  obtain ⟨b, z, y, rfl, s, n, g⟩ := h
  exact pk_two s (pk_word (name_w n)) (pk_word (signs_w g)) (by decide)
/-- a new tuple beside the pot -/
theorem at_new {a p : Addr} {H H1 : Hp} {xs : List V} (e : upd H p (.tup xs) = H1) (np : H p = none) (pot : Pot a H) : Mv a H H1 ∧ SqT K (hid a H1) p xs := by
  have m : Mv a H H1 := by rw [← e]; exact (Mv.refl pot).new np
  refine ⟨m, SqT.of ?_⟩
  rw [hid_ne (Mv.ne pot (Mv.refl pot) np), ← e]
  exact upd_same
theorem at_newL {a p : Addr} {H H1 : Hp} {xs : List V} (e : upd H p (.lst xs) = H1) (np : H p = none) (pot : Pot a H) : Mv a H H1 ∧ SqL K (hid a H1) p xs ∧ p ≠ a ∧ H1 p = some (.lst xs) := by
  have m : Mv a H H1 := by rw [← e]; exact (Mv.refl pot).new np
  have ne := Mv.ne pot (Mv.refl pot) np
  have h1 : H1 p = some (.lst xs) := by rw [← e]; exact upd_same
  refine ⟨m, SqL.of ?_, ne, h1⟩
  rw [hid_ne ne]
  exact h1
theorem sql_mv {a p : Addr} {H H1 : Hp} {xs : List V} (h : SqL K (hid a H) p xs) (m : Mv a H H1) : SqL K (hid a H1) p xs := m.same.seq h
/-! the dict of drawn pairs -/
def gdE (p : Key × V) : Prop := ∃ z y, p = (.inr z, .str y) ∧ Sm 8 z ∧ Sm 8 y
theorem gd_put {kvs : List (Key × V)} {z y : Str} (h : ∀ p ∈ kvs, gdE p) (hz : Sm 8 z) (hy : Sm 8 y) : ∀ p ∈ putK kvs (.inr z) (.str y), gdE p := by
  unfold putK
  split
  · intro p hp
    obtain ⟨q, hq, e⟩ := List.mem_map.mp hp
    obtain ⟨z1, y1, rfl, s1, s2⟩ := h q hq
    by_cases c : (Sum.inr z1 : Key) = .inr z
    · rw [if_pos c] at e
      exact ⟨z1, y, e.symm, s1, hy⟩
    · rw [if_neg c] at e
      exact ⟨z1, y1, e.symm, s1, s2⟩
  · intro p hp
    rcases List.mem_append.mp hp with hp | hp
    · exact h p hp
    · exact ⟨z, y, List.mem_singleton.mp hp, hz, hy⟩
theorem gd_merge : ∀ (more kvs : List (Key × V)), (∀ p ∈ kvs, gdE p) → (∀ p ∈ more, gdE p) → ∀ p ∈ mergeK kvs more, gdE p
  | [], kvs, h, _ => h
  | m :: more, kvs, h, g => by
    obtain ⟨z, y, rfl, s1, s2⟩ := g m List.mem_cons_self
    exact gd_merge more (putK kvs (.inr z) (.str y)) (gd_put h s1 s2) fun p hp => g p (List.mem_cons_of_mem _ hp)
theorem gd_data {H : Hp} : ∀ {kvs : List (Key × V)}, (∀ p ∈ kvs, gdE p) → ∃ es : List (PyData × PyData), DzAll K H (kvs.map fun p => kV p.1) (es.map (·.1)) ∧ DzAll K H (kvs.map (·.2)) (es.map (·.2)) ∧ es.length = kvs.length ∧ ∀ e ∈ es, Fit 82 0 e.1 ∧ Fit 82 0 e.2
  | [], _ => ⟨[], .nil, .nil, rfl, fun e he => nomatch he⟩
  | p :: kvs, h => by
    obtain ⟨z, y, rfl, s1, s2⟩ := h p List.mem_cons_self
    obtain ⟨es, d1, d2, len, f⟩ := gd_data (H := H) fun q hq => h q (List.mem_cons_of_mem _ hq)
    refine ⟨(.str z, .str y) :: es, .cons (.str z) d1, .cons (.str y) d2, congrArg (· + 1) len, fun e he => ?_⟩
    rcases List.mem_cons.mp he with he | he
    · rw [he]
      exact ⟨s1.fit, s2.fit⟩
    · exact f e he
theorem pk_dict {a p : Addr} {H : Hp} {kvs : List (Key × V)} (ne : p ≠ a) (h : H p = some (.dK kvs)) (g : ∀ q ∈ kvs, gdE q) (few : kvs.length ≤ 3) : Pk K a 600 1 H (.ref p) := by
  obtain ⟨es, d1, d2, len, f⟩ := gd_data (K := K) (H := hid a H) g
  refine ⟨.dict es, .dic ((hid_ne ne).trans h) d1 d2, Fit.dic (k := 3) f (by omega) (by decide)⟩
/-- pairs, told as addresses and as keys with values -/
theorem pairs_dict {a : Addr} {H : Hp} : ∀ {xs : List V}, (∀ v ∈ xs, PrV K a H v) → ∃ (ps : List Addr) (kvs : List (Key × V)), xs = ps.map V.ref ∧ Paired (fun p kv => SqT K H p [kV kv.1, kv.2]) ps kvs ∧ (∀ q ∈ kvs, gdE q) ∧ kvs.length = xs.length
  | [], _ => ⟨[], [], rfl, .nil, (fun q hq => nomatch hq), rfl⟩
  | v :: xs, h => by
    obtain ⟨b, z, y, rfl, s, n, g⟩ := h v List.mem_cons_self
    obtain ⟨ps, kvs, rfl, p2, g2, len⟩ := pairs_dict fun u hu => h u (List.mem_cons_of_mem _ hu)
    refine ⟨b :: ps, (.inr z, .str y) :: kvs, rfl, .cons (sqt_unhid s) p2, fun q hq => ?_, congrArg (· + 1) len⟩
    rcases List.mem_cons.mp hq with hq | hq
    · exact ⟨z, y, hq, Sm.of_word (name_w n), Sm.of_word (signs_w g)⟩
    · exact g2 q hq
/-! is a tuple of pairs the empty one? -/
theorem ok_letters {z : Str} (h : wordB 8 z = true) : PyData.canLay0 (.str z) = true := by
  obtain ⟨_, _, m⟩ := wordB_len h
  simp only [PyData.canLay0, PyData.strOk]
  rw [← Array.all_toList, List.all_eq_true]
  intro c hc
  have := m c hc
  unfold letB at this
  rw [Bool.and_eq_true, decide_eq_true_eq, decide_eq_true_eq] at this
  refine decide_eq_true ?_
  omega
theorem dp_pairs {a : Addr} {H : Hp} : ∀ {xs : List V}, (∀ v ∈ xs, PrV K a H v) → ∃ ds, DpAll K H xs ds ∧ PyData.canLayAll0 ds = true ∧ PyData.depthAll ds ≤ 1 ∧ ds.length = xs.length
  | [], _ => ⟨[], .nil, by simp only [PyData.canLayAll0], by simp only [PyData.depthAll]; exact Nat.zero_le _, rfl⟩
  | v :: xs, h => by
    obtain ⟨b, z, y, rfl, s, n, g⟩ := h v List.mem_cons_self
    obtain ⟨ds, d1, c, dp, len⟩ := dp_pairs fun u hu => h u (List.mem_cons_of_mem _ hu)
    have cz := ok_letters (name_w n)
    have cy := ok_letters (signs_w g)
    refine ⟨.tuple [.str z, .str y] :: ds, .cons (.tup (sqt_unhid s) (.cons (.str z) (.cons (.str y) .nil))) d1, ?_, ?_, congrArg (· + 1) len⟩
    · simp only [PyData.canLayAll0, PyData.canLay0, Bool.and_eq_true] at cz cy c ⊢
      exact ⟨⟨cz, cy, trivial⟩, c⟩
    · simp only [PyData.depthAll, PyData.depth]
      exact Nat.max_le.mpr ⟨by decide, dp⟩
theorem eq_nil {a p q : Addr} {H : Hp} {Q : VK} {xs : List V} (hp : SqT K (hid a H) p xs) (all : ∀ v ∈ xs, PrV K a H v) (hq : SqT K H q []) (k : ∀ b : Bool, (b = false → xs ≠ []) → Q (.bl b) H) : Z.rEq K (.ref p) (.ref q) H Q := by
  obtain ⟨ds, d1, c, dp, len⟩ := dp_pairs all
  refine .inr ⟨.tuple ds, .tuple [], .tup (sqt_unhid hp) d1, .tup hq .nil, ?_, by decide +kernel, k _ ?_⟩
  · unfold SeqAt.shaped
    rw [Bool.and_eq_true]
    refine ⟨by simp only [PyData.canLay0]; exact c, decide_eq_true ?_⟩
    simp only [PyData.depth]
    omega
  · rintro e rfl
    cases ds with
    | nil =>
      simp only [PyData.eqv, PyData.eqvAll] at e
      exact Bool.noConfusion e
    | cons d ds => exact absurd len (Nat.succ_ne_zero _)
end
end Z
namespace Z
open PySem PySem.Spec PyProof.Rows L2 G
section
variable {P : Program} {w : World} {K : PySem.W.Frag} {mg : Str → Option Value} {base : Heap}
/-- an odd value in place of sources or sinks -/
def spNear (K : PySem.W.Frag) : Sp := fun vs H Q _ => ∃ a pt xs, vs = [.ref a, .ref pt] ∧ Pot a H ∧ SqT K (hid a H) pt xs ∧ xs.length ≤ 3 ∧ (∀ v ∈ xs, PrV K a H v) ∧ ∀ H1 v, Mv a H H1 → Pk K a 2000000 3 H1 v → Q v H1
theorem len_sqt {a p : Addr} {H : Hp} {Q : VK} {xs : List V} (h : SqT K (hid a H) p xs) (q : Q (.int (xs.length : Nat)) H) : Z.rLen K [.ref p] H Q := .inl ⟨xs, .inr (sqt_unhid h), q⟩
theorem list_sqt {a p : Addr} {H : Hp} {Q : VK} {xs : List V} (h : SqT K (hid a H) p xs) (q : ∀ l, H l = none → Q (.ref l) (upd H l (.lst xs))) : Z.rListZ K [.ref p] H Q := ⟨xs, .inr (sqt_unhid h), q⟩
theorem if_any {t : TT} {ts tu : TS} {D : Ends} {σ : L2.St} {H : Hp} {M : Hp → Prop} {C : Prop} (q : ∀ R : Bool → Hp → Prop, (∀ b H1, M H1 → (b = false → C) → R b H1) → t σ H R) (yes : ∀ H1, M H1 → ts D σ H1) (no : ∀ H1, M H1 → C → tu D σ H1) : tIfS t ts tu D σ H := by
  refine q _ fun b H1 m c => ?_
  cases b with
  | true => exact iteT (yes H1 m)
  | false => exact iteF (no H1 m (c rfl))
theorem pk_cut {a : Addr} {H : Hp} {xs : List V} {lo hi : Option Int} (h : ∀ v ∈ xs, PrV K a H v) : ∀ v ∈ cutV xs lo hi, Pk K a 220000 2 H v := fun v hv => (h v (mem_cut hv)).pk.mono (by decide) (by decide)
theorem pk_app {a : Addr} {W n : Nat} {H : Hp} {xs ys : List V} (h : ∀ v ∈ xs, Pk K a W n H v) (g : ∀ v ∈ ys, Pk K a W n H v) : ∀ v ∈ xs ++ ys, Pk K a W n H v := fun v hv => (List.mem_append.mp hv).elim (h v) (g v)
theorem cut_few (xs : List V) (lo hi : Option Int) : (cutV xs lo hi).length ≤ xs.length := cutV_length xs lo hi
abbrev s_law_near : Stmt := topS 35
theorem sc_law_near : FnScope ["pot", "parts", "at", "way", "fresh", "name", "signs", "more", "some"] ["pot", "parts"] (defScope s_law_near) := ⟨rfl, rfl, rfl, by decide +kernel, rfl, by decide +kernel, by decide +kernel⟩
theorem ok_near {f fodd fdip fch fnm fsh fsg : Addr} {fd fdodd fddip fdch fdnm fdsh fdsg : FuncData} (T : Txt2 mg) (D : Def K mg "_law_near" s_law_near ["pot", "parts"] f fd)
    (D_law_odd_text : Def K mg "_law_odd_text" s_law_odd_text ["pot", "word"] fodd fdodd) (D_law_dip : Def K mg "_law_dip" s_law_dip ["pot", "total"] fdip fddip) (D_law_choose : Def K mg "_law_choose" s_law_choose ["pot", "items"] fch fdch) (D_law_name : Def K mg "_law_name" s_law_name ["pot"] fnm fdnm)
    (D_law_shuffled : Def K mg "_law_shuffled" s_law_shuffled ["pot", "items"] fsh fdsh) (D_law_signs : Def K mg "_law_signs" s_law_signs ["pot"] fsg fdsg) : FnOk P w K mg base CX0 4 f fd ["pot", "parts"] (spNear K) := by
  have G_law_odd_text : FnOk P w K mg base CX0 3 fodd fdodd ["pot", "word"] (spOdd K) := ok_odd_text T D_law_odd_text D_law_dip D_law_choose
  have G_law_name : FnOk P w K mg base CX0 3 fnm fdnm ["pot"] spName := ok_name T.toTxt D_law_name D_law_dip D_law_choose
  have G_law_signs : FnOk P w K mg base CX0 3 fsg fdsg ["pot"] spSigns := ok_signs T.toTxt D_law_signs D_law_dip D_law_choose D_law_shuffled
  have G_law_dip : FnOk P w K mg base CX0 1 fdip fddip ["pot", "total"] spDip := ok_dip T.toTxt D_law_dip
  have G_law_choose : FnOk P w K mg base CX0 2 fch fdch ["pot", "items"] (spChoose K) := ok_choose T.toTxt D_law_choose D_law_dip
  refine D.F.ok sc_law_near (fun vs H Q E h => ?_) (fun cdv A outer s H vs Q E hr h => ?_)
  · obtain ⟨a, pt, xs, rfl, _⟩ := h
    rfl
  · obtain ⟨a, pt, xs, rfl, pot, hp, few, prs, k⟩ := h
    have hu := hr.units
    refine ⟨_, (pss_cons (ps_par (i := 2) (j := 3) (by rfl) sc_law_near.nd rfl rfl (by decide) rfl rfl (pa_cons (pe_call G_law_dip (hr.mono (by decide)) (by rfl) D_law_dip.g D_law_dip.F.kp D_law_dip.b .nil pass0 (pa_cons (pv 0) (pa_cons (pe_callB (Z.call_max rfl) (by rfl) T.max (by decide +kernel) (pa_cons pe_int (pa_cons (pe_callB (Z.k_len (K := K)) (by rfl) T.len (by decide +kernel) (pa_cons (pv 1) pa_nil)) pa_nil))) pa_nil))) (pa_cons (pe_call G_law_dip (hr.mono (by decide)) (by rfl) D_law_dip.g D_law_dip.F.kp D_law_dip.b .nil pass0 (pa_cons (pv 0) (pa_cons pe_int pa_nil))) pa_nil)) (by rfl))
 (pss_cons (ps_set (i := 4) sc_law_near.nd rfl (by first | exact Or.inl rfl | exact Or.inr rfl) (pe_tup (pa_cons (pe_call G_law_name (hr.mono (by decide)) (by rfl) D_law_name.g D_law_name.F.kp D_law_name.b .nil pass0 (pa_cons (pv 0) pa_nil)) (pa_cons (pe_call G_law_signs (hr.mono (by decide)) (by rfl) D_law_signs.g D_law_signs.F.kp D_law_signs.b .nil pass0 (pa_cons (pv 0) pa_nil)) pa_nil))))
 (pss_cons (ps_if (PW.pt (pw_or (pt_cmpR (Z.k_eq (K := K) hu) (pv 3) pe_int (nomark _)) (pw_or1 (pt_cmpR (Z.k_eq (K := K) hu) (pv 1) (pe_tup pa_nil) (nomark _)))))
  (pss_one (ps_ret (pe_call G_law_choose (hr.mono (by decide)) (by rfl) D_law_choose.g D_law_choose.F.kp D_law_choose.b .nil pass0 (pa_cons (pv 0) (pa_cons (pe_lst (pa_cons pe_non (pa_cons pe_int (pa_cons (pe_tup pa_nil) (pa_cons (pe_lst pa_nil) (pa_cons pe_dnewK (pa_cons (pe_callTy (Z.k_list (K := K) rfl) (by rfl) T.list (by decide +kernel) (pa_cons (pv 1) pa_nil)) (pa_cons pe_str (pa_cons (pe_callTy (Z.k_dictP (K := K) rfl) (by rfl) T.dict (by decide +kernel) (pa_cons (pe_callTy (Z.k_list (K := K) rfl) (by rfl) T.list (by decide +kernel) (pa_cons (pv 1) pa_nil)) pa_nil)) (pa_cons (pe_tup (pa_cons (pv 1) pa_nil)) (pa_cons (pe_tup (pa_cons (pv 4) pa_nil)) (pa_cons (pv 1) pa_nil)))))))))))) pa_nil)))))
  pss_nil)
 (pss_cons (ps_asg (pe_ix (Z.k_item (K := K)) (pv 1) (pv 2) (fun _ _ => rfl)) (Z.k_tup (K := K) (n := 2) rfl (pgs_cons (pg_name (i := 5) sc_law_near.nd rfl (by first | exact Or.inl rfl | exact Or.inr rfl)) (pgs_cons (pg_name (i := 6) sc_law_near.nd rfl (by first | exact Or.inl rfl | exact Or.inr rfl)) pgs_nil))))
 (pss_cons (ps_if (pt_cmpR (Z.k_eq (K := K) hu) (pv 3) pe_int (nomark _))
  (pss_one (ps_ret (pe_op (Z.k_add (K := K)) (pe_slice (Z.k_cut (K := K)) (pv 1) po_none (po_some (pv 2))) (pe_slice (Z.k_cut (K := K)) (pv 1) (po_some (pe_op (Z.k_add (K := K)) (pv 2) pe_int)) po_none))))
  pss_nil)
 (pss_cons (ps_if (pt_cmpR (Z.k_eq (K := K) hu) (pv 3) pe_int (nomark _))
  (pss_cons (ps_set (i := 7) sc_law_near.nd rfl (by first | exact Or.inl rfl | exact Or.inr rfl) (pe_call G_law_choose (hr.mono (by decide)) (by rfl) D_law_choose.g D_law_choose.F.kp D_law_choose.b .nil pass0 (pa_cons (pv 0) (pa_cons (pe_lst (pa_cons (pe_tup (pa_cons (pv 4) pa_nil)) (pa_cons (pe_tup (pa_cons (pv 4) (pa_cons (pv 4) pa_nil))) (pa_cons (pe_tup (pa_cons (pe_ix (Z.k_item (K := K)) (pv 1) (pv 2) (fun _ _ => rfl)) (pa_cons (pe_ix (Z.k_item (K := K)) (pv 1) (pv 2) (fun _ _ => rfl)) pa_nil))) pa_nil)))) pa_nil))))
 (pss_one (ps_ret (pe_op (Z.k_add (K := K)) (pe_op (Z.k_add (K := K)) (pe_slice (Z.k_cut (K := K)) (pv 1) po_none (po_some (pv 2))) (pv 7)) (pe_slice (Z.k_cut (K := K)) (pv 1) (po_some (pv 2)) po_none)))))
  pss_nil)
 (pss_cons (ps_if (pt_cmpR (Z.k_eq (K := K) hu) (pv 3) pe_int (nomark _))
  (pss_one (ps_ret (pe_op (Z.k_add (K := K)) (pe_op (Z.k_add (K := K)) (pe_slice (Z.k_cut (K := K)) (pv 1) po_none (po_some (pv 2))) (pe_tup (pa_cons (pe_tup (pa_cons (pe_call G_law_odd_text (hr.mono (by decide)) (by rfl) D_law_odd_text.g D_law_odd_text.F.kp D_law_odd_text.b .nil pass0 (pa_cons (pv 0) (pa_cons (pv 5) pa_nil))) (pa_cons (pv 6) pa_nil))) pa_nil))) (pe_slice (Z.k_cut (K := K)) (pv 1) (po_some (pe_op (Z.k_add (K := K)) (pv 2) pe_int)) po_none))))
  pss_nil)
 (pss_cons (ps_if (pt_cmpR (Z.k_eq (K := K) hu) (pv 3) pe_int (nomark _))
  (pss_one (ps_ret (pe_op (Z.k_add (K := K)) (pe_op (Z.k_add (K := K)) (pe_slice (Z.k_cut (K := K)) (pv 1) po_none (po_some (pv 2))) (pe_tup (pa_cons (pe_tup (pa_cons (pv 5) (pa_cons (pe_call G_law_odd_text (hr.mono (by decide)) (by rfl) D_law_odd_text.g D_law_odd_text.F.kp D_law_odd_text.b .nil pass0 (pa_cons (pv 0) (pa_cons (pv 6) pa_nil))) pa_nil))) pa_nil))) (pe_slice (Z.k_cut (K := K)) (pv 1) (po_some (pe_op (Z.k_add (K := K)) (pv 2) pe_int)) po_none))))
  pss_nil)
 (pss_cons (ps_set (i := 8) sc_law_near.nd rfl (by first | exact Or.inl rfl | exact Or.inr rfl) (pe_lst (pa_cons (pe_lst (pa_cons (pv 5) (pa_cons (pv 6) pa_nil))) (pa_cons (pe_tup (pa_cons (pv 5) pa_nil)) (pa_cons (pe_tup (pa_cons (pv 5) (pa_cons (pv 6) (pa_cons (pv 6) pa_nil)))) (pa_cons (pe_tup (pa_cons (pv 6) (pa_cons (pv 5) pa_nil))) (pa_cons pe_non (pa_cons (pv 5) (pa_cons (pe_disp (pps_cons (pv 5) (pv 6) pps_nil) (by rfl) (by rfl) (fun z => by cases z) (by decide)) (pa_cons (pe_tup (pa_cons (pv 5) (pa_cons (pe_tup (pa_cons (pv 6) pa_nil)) pa_nil))) pa_nil))))))))))
 (pss_cons (ps_set (i := 8) sc_law_near.nd rfl (by first | exact Or.inl rfl | exact Or.inr rfl) (pe_op (Z.k_add (K := K)) (pv 8) (pe_lst (pa_cons (pe_tup (pa_cons (pv 5) (pa_cons (pv 6) pa_nil))) (pa_cons (pv 4) (pa_cons (pe_tup (pa_cons (pv 5) (pa_cons (pe_callTy (Z.k_list (K := K) rfl) (by rfl) T.list (by decide +kernel) (pa_cons (pv 6) pa_nil)) pa_nil))) (pa_cons (pe_tup pa_nil) pa_nil)))))))
 (pss_one (ps_ret (pe_op (Z.k_add (K := K)) (pe_op (Z.k_add (K := K)) (pe_slice (Z.k_cut (K := K)) (pv 1) po_none (po_some (pv 2))) (pe_tup (pa_cons (pe_call G_law_choose (hr.mono (by decide)) (by rfl) D_law_choose.g D_law_choose.F.kp D_law_choose.b .nil pass0 (pa_cons (pv 0) (pa_cons (pv 8) pa_nil))) pa_nil))) (pe_slice (Z.k_cut (K := K)) (pv 1) (po_some (pe_op (Z.k_add (K := K)) (pv 2) pe_int)) po_none)))))))))))))), ?_⟩
    walk_at "st"
    refine len_sqt hp ?_
    walk_at "st"
    have mx : ∃ mx : Int, (if ((xs.length : Nat) : Int) > 1 then ((xs.length : Nat) : Int) else 1) = mx ∧ 1 ≤ mx ∧ mx ≤ 3 ∧ (xs ≠ [] → mx ≤ (xs.length : Nat)) := by
      refine ⟨_, rfl, ?_, ?_, ?_⟩
      · split <;> omega
      · split <;> omega
      · intro ne
        have := List.length_pos_iff.mpr ne
        split <;> omega
    obtain ⟨mx, emx, mx1, mx3, mxl⟩ := mx
    rw [emx]
    refine ⟨a, mx, rfl, pot, by omega, by omega, fun H1 at_ m1 a0 a1 => ?_⟩
    walk_at "st"
    refine ⟨a, 8, rfl, m1.pot, by decide, by decide, fun H2 way m2 w0 w1 => ?_⟩
    walk_at "st"
    have m02 := m1.trans m2
    refine ⟨a, rfl, m02.pot, fun H3 fz m3 hfz => ?_⟩
    walk_at "st"
    refine ⟨a, rfl, m3.pot, fun H4 fy m4 hfy => ?_⟩
    walk_at "st"
    refine ⟨by show 2 ≤ sizeLine; decide, fun pf npf => ?_⟩
    generalize ef : upd H4 pf _ = H5
    obtain ⟨m5, hf⟩ := at_new (K := K) ef npf m4.pot
    have m05 := ((m02.trans m3).trans m4).trans m5
    have hp5 := sqt_mv hp m05
    have prs5 : ∀ v ∈ xs, PrV K a H5 v := fun v hv => (prs v hv).mv m05
    have fresh5 : PrV K a H5 (.ref pf) := ⟨pf, fz, fy, rfl, hf, hfz, hfy⟩
    repeat (first | with_reducible refine Z.s_name ?_ | with_reducible refine Z.s_seq ?_ | with_reducible refine Z.s_next ?_)
    with_reducible refine if_any (M := Mv a H5) (C := way ≠ 0 ∧ xs ≠ []) ?_ ?_ ?_
    · intro R q
      walk_at "st"
      by_cases c : way = 0
      · rw [decide_eq_true c]
        exact iteT (q true H5 (Mv.refl m5.pot) fun z => Bool.noConfusion z)
      · rw [decide_eq_false c]
        refine iteF ?_
        walk_at "st"
        refine ⟨by show 0 ≤ sizeLine; decide, fun pe npe => ?_⟩
        generalize ee : upd H5 pe _ = H6
        obtain ⟨m6, he⟩ := at_new (K := K) ee npe m5.pot
        refine eq_nil (sqt_mv hp5 m6) (fun v hv => (prs5 v hv).mv m6) (sqt_unhid he) fun b hb => ?_
        refine s_bl (P := _) ?_
        exact q b H6 m6 fun z => ⟨c, hb z⟩
    · intro H6 m6
      have hp6 := sqt_mv hp5 m6
      have prs6 : ∀ v ∈ xs, PrV K a H6 v := fun v hv => (prs5 v hv).mv m6
      have m06 := m05.trans m6
      walk_at "st"
      refine ⟨by show 0 ≤ sizeLine; decide, fun p1 np1 => ?_⟩
      generalize e1 : upd H6 p1 _ = G1
      obtain ⟨n1, s1⟩ := at_new (K := K) e1 np1 m6.pot
      walk_at "st"
      refine ⟨by show 0 ≤ sizeLine; decide, fun p2 np2 => ?_⟩
      generalize e2 : upd G1 p2 _ = G2
      obtain ⟨n2, s2, _, _⟩ := at_newL (K := K) e2 np2 n1.pot
      walk_at "st"
      refine s_dnew fun p3 np3 => ?_
      generalize e3 : upd G2 p3 _ = G3
      have n3 : Mv a G2 G3 := by rw [← e3]; exact (Mv.refl n2.pot).new np3
      have a3 : G3 p3 = some (.dK []) := by rw [← e3]; exact upd_same
      have ne3 := Mv.ne n2.pot (Mv.refl n2.pot) np3
      have l13 := (n1.trans n2).trans n3
      walk_at "st"
      refine list_sqt (sqt_mv hp6 l13) fun p4 np4 => ?_
      generalize e4 : upd G3 p4 _ = G4
      obtain ⟨n4, s4, _, _⟩ := at_newL (K := K) e4 np4 n3.pot
      have l14 := l13.trans n4
      walk_at "st"
      refine list_sqt (sqt_mv hp6 l14) fun p5 np5 => ?_
      generalize e5 : upd G4 p5 _ = G5
      obtain ⟨n5, s5, _, h5⟩ := at_newL (K := K) e5 np5 n4.pot
      have l15 := l14.trans n5
      walk_at "st"
      obtain ⟨ps, kvs, exs, pd, gd, lk⟩ := pairs_dict (K := K) (H := G5) (fun v hv => (prs6 v hv).mv l15)
      refine ⟨p5, ps, kvs, rfl, SqL.of (by rw [h5, exs]), pd, fun p6 np6 => ?_⟩
      generalize e6 : upd G5 p6 _ = G6
      have n6 : Mv a G5 G6 := by rw [← e6]; exact (Mv.refl n5.pot).new np6
      have a6 : G6 p6 = some (.dK (mergeK [] kvs)) := by rw [← e6]; exact upd_same
      have ne6 := Mv.ne n5.pot (Mv.refl n5.pot) np6
      walk_at "st"
      refine ⟨by show 1 ≤ sizeLine; decide, fun p7 np7 => ?_⟩
      generalize e7 : upd G6 p7 _ = G7
      obtain ⟨n7, s7⟩ := at_new (K := K) e7 np7 n6.pot
      walk_at "st"
      refine ⟨by show 1 ≤ sizeLine; decide, fun p8 np8 => ?_⟩
      generalize e8 : upd G7 p8 _ = G8
      obtain ⟨n8, s8⟩ := at_new (K := K) e8 np8 n7.pot
      walk_at "st"
      refine ⟨by show 11 ≤ sizeLine; decide, fun pl npl => ?_⟩
      generalize el : upd G8 pl _ = G9
      obtain ⟨n9, s9, _, _⟩ := at_newL (K := K) el npl n8.pot
      clear e1 e2 e3 e4 e5 e6 e7 e8 el ef
      walk_at "st"
      refine ⟨a, n9.pot, .inl ⟨pl, _, rfl, .inl s9, by show 0 < 11; decide, by show 11 < 1000000; decide, fun J v mj hv => ?_⟩⟩
      have u9 := n9.trans mj
      have u8 := n8.trans u9
      have u7 := n7.trans u8
      have u6 := n6.trans u7
      have u5 := n5.trans u6
      have u4 := n4.trans u5
      have u3 := n3.trans u4
      have u2 := n2.trans u3
      have u1 := n1.trans u2
      refine k J v (m06.trans u1) ?_
      have each : ∀ u ∈ xs, Pk K a 200 1 J u := fun u hu => ((prs6 u hu).mv u1).pk
      have whole : Pk K a 1000 2 J (.ref pt) := Pk.tup (W := 200) (n := 1) (k := 3) (sqt_mv hp6 u1) each few (by decide)
      simp only [List.mem_cons, List.not_mem_nil, or_false] at hv
      rcases hv with rfl | rfl | rfl | rfl | rfl | rfl | rfl | rfl | rfl | rfl | rfl
      · exact ⟨.none, .non, Fit.none (by decide)⟩
      · exact ⟨.int 0, .int 0, Fit.int (by decide +kernel) (by decide +kernel)⟩
      · exact (Pk.tup (W := 0) (n := 0) (k := 0) (V := 400) (sqt_mv s1 u2) (fun u hu => nomatch hu) (Nat.le_refl _) (by decide)).mono (by decide) (by decide)
      · exact (Pk.lst (W := 0) (n := 0) (k := 0) (V := 400) (sql_mv s2 u3) (fun u hu => nomatch hu) (Nat.le_refl _) (by decide)).mono (by decide) (by decide)
      · exact (pk_dict (kvs := []) ne3 (u4.at ne3 a3) (fun q hq => nomatch hq) (Nat.zero_le _)).mono (by decide) (by decide)
      · exact (Pk.lst (W := 200) (n := 1) (k := 3) (V := 1000) (sql_mv s4 u5) each few (by decide)).mono (by decide) (by decide)
      · exact Pk.str (k := 2) (sm_all (k := 2) (zs := ["ab"]) (by decide +kernel) _ (List.mem_singleton.mpr rfl)) (by decide)
      · refine (pk_dict ne6 (u7.at ne6 a6) (gd_merge kvs [] (fun q hq => nomatch hq) gd) ?_).mono (by decide) (by decide)
        have := length_mergeK kvs []
        rw [List.length_nil] at this
        omega
      · exact (pk_one (V := 2000) (sqt_mv s7 u8) whole (by decide)).mono (by decide) (by decide)
      · exact (pk_one (V := 400) (sqt_mv s8 u9) (fresh5.mv (m6.trans u1)).pk (by decide)).mono (by decide) (by decide)
      · exact whole.mono (by decide) (by decide)
    · rintro H6 m6 ⟨w0', ne⟩
      have hp6 := sqt_mv hp5 m6
      have prs6 : ∀ v ∈ xs, PrV K a H6 v := fun v hv => (prs5 v hv).mv m6
      have m06 := m05.trans m6
      have fin : ∀ {G : Hp} {r : Addr} {ys : List V}, Mv a H6 G → SqT K (hid a G) r ys → (∀ v ∈ ys, Pk K a 220000 2 G v) → ys.length ≤ 8 → Q (.ref r) G := fun {G r ys} m s all len => k G _ (m06.trans m) (Pk.tup (W := 220000) (k := 8) s all len (by decide))
      have lt : at_.toNat < xs.length := by
        have := mxl ne
        omega
      obtain ⟨b, z, y, exa, hb, hz, hy⟩ := prs6 xs[at_.toNat] (List.getElem_mem lt)
      have hat : atI xs at_ = some (.ref b) := atI_lt a0 (by rw [List.getElem?_eq_getElem lt, exa])
      walk_at "st"
      refine itemT (sqt_unhid hp6) hat ?_
      refine ⟨b, [.str z, .str y], rfl, sqt_unhid hb, rfl, ?_⟩
      walk_at "st"
      by_cases c1 : way = 1
      · rw [decide_eq_true c1]
        refine iteT ?_
        walk_at "st"
        refine cutM m06.pot hp6 fun r1 G1 n1 s1 => ?_
        walk_at "st"
        refine cutM n1.pot (sqt_mv hp6 n1) fun r2 G2 n2 s2 => ?_
        refine catM n2.pot (sqt_mv s1 n2) s2 ?_ fun r3 G3 n3 s3 => ?_
        · have := cut_few xs none (some at_)
          have := cut_few xs (some (at_ + 1)) none
          omega
        have m := (n1.trans n2).trans n3
        refine fin m s3 ?_ ?_
        · exact pk_app (pk_cut fun v hv => (prs6 v hv).mv m) (pk_cut fun v hv => (prs6 v hv).mv m)
        · rw [List.length_append]
          have := cut_few xs none (some at_)
          have := cut_few xs (some (at_ + 1)) none
          omega
      · rw [decide_eq_false c1]
        refine iteF ?_
        walk_at "st"
        have lo1 := cut_few xs none (some at_)
        have hi1 := cut_few xs (some (at_ + 1)) none
        have hi0 := cut_few xs (some at_) none
        by_cases c2 : way = 2
        · rw [decide_eq_true c2]
          refine iteT ?_
          walk_at "st"
          refine ⟨by show 1 ≤ sizeLine; decide, fun q1 nq1 => ?_⟩
          generalize e1 : upd H6 q1 _ = G1
          obtain ⟨n1, s1⟩ := at_new (K := K) e1 nq1 m6.pot
          walk_at "st"
          refine ⟨by show 2 ≤ sizeLine; decide, fun q2 nq2 => ?_⟩
          generalize e2 : upd G1 q2 _ = G2
          obtain ⟨n2, s2⟩ := at_new (K := K) e2 nq2 n1.pot
          have n12 := n1.trans n2
          walk_at "st"
          refine itemT (sqt_unhid (sqt_mv hp6 n12)) hat ?_
          walk_at "st"
          refine itemT (sqt_unhid (sqt_mv hp6 n12)) hat ?_
          walk_at "st"
          refine ⟨by show 2 ≤ sizeLine; decide, fun q3 nq3 => ?_⟩
          generalize e3 : upd G2 q3 _ = G3
          obtain ⟨n3, s3⟩ := at_new (K := K) e3 nq3 n2.pot
          have n13 := n12.trans n3
          walk_at "st"
          refine ⟨by show 3 ≤ sizeLine; decide, fun pl npl => ?_⟩
          generalize e4 : upd G3 pl _ = G4
          obtain ⟨n4, s4, ne4, h4⟩ := at_newL (K := K) e4 npl n3.pot
          walk_at "st"
          refine ⟨a, n4.pot, .inl ⟨pl, _, rfl, .inl s4, by show 0 < 3; decide, by show 3 < 1000000; decide, fun G5 v n5 hv => ?_⟩⟩
          have n15 := (n13.trans n4).trans n5
          obtain ⟨qm, ms, rfl, sm, mf, pm⟩ : ∃ qm ms, v = .ref qm ∧ SqT K (hid a G5) qm ms ∧ ms.length ≤ 2 ∧ ∀ u ∈ ms, PrV K a G5 u := by
            have fr : PrV K a G5 (.ref pf) := fresh5.mv (m6.trans n15)
            have br : PrV K a G5 (.ref b) := PrV.mv ⟨b, z, y, rfl, hb, hz, hy⟩ n15
            simp only [List.mem_cons, List.not_mem_nil, or_false] at hv
            rcases hv with rfl | rfl | rfl
            · refine ⟨q1, _, rfl, sqt_mv s1 (((n2.trans n3).trans n4).trans n5), by show 1 ≤ 2; decide, fun u hu => ?_⟩
              rw [List.mem_singleton.mp hu]
              exact fr
            · refine ⟨q2, _, rfl, sqt_mv s2 ((n3.trans n4).trans n5), by show 2 ≤ 2; decide, fun u hu => ?_⟩
              simp only [List.mem_cons, List.not_mem_nil, or_false] at hu
              rcases hu with rfl | rfl <;> exact fr
            · refine ⟨q3, _, rfl, sqt_mv s3 (n4.trans n5), by show 2 ≤ 2; decide, fun u hu => ?_⟩
              simp only [List.mem_cons, List.not_mem_nil, or_false] at hu
              rcases hu with rfl | rfl <;> exact br
          walk_at "st"
          refine cutM n5.pot (sqt_mv hp6 n15) fun r1 J1 k1 t1 => ?_
          walk_at "st"
          refine catM k1.pot t1 (sqt_mv sm k1) (by omega) fun r2 J2 k2 t2 => ?_
          walk_at "st"
          refine cutM k2.pot (sqt_mv hp6 ((n15.trans k1).trans k2)) fun r3 J3 k3 t3 => ?_
          refine catM k3.pot (sqt_mv t2 k3) t3 (by rw [List.length_append]; omega) fun r4 J4 k4 t4 => ?_
          have kk := ((k1.trans k2).trans k3).trans k4
          have m := n15.trans kk
          refine fin m t4 ?_ (by rw [List.length_append, List.length_append]; omega)
          exact pk_app (pk_app (pk_cut fun v hv => (prs6 v hv).mv m) fun v hv => ((pm v hv).mv kk).pk.mono (by decide) (by decide)) (pk_cut fun v hv => (prs6 v hv).mv m)
        · rw [decide_eq_false c2]
          refine iteF ?_
          walk_at "st"
          by_cases c3 : way = 3
          · rw [decide_eq_true c3]
            refine iteT ?_
            walk_at "st"
            refine cutM m06.pot hp6 fun r1 J1 k1 t1 => ?_
            walk_at "st"
            refine ⟨a, z, rfl, k1.pot, name_w hz, fun J2 v k2 pv => ?_⟩
            walk_at "st"
            refine ⟨by show 2 ≤ sizeLine; decide, fun q1 nq1 => ?_⟩
            generalize e1 : upd J2 q1 _ = J3
            obtain ⟨k3, t3⟩ := at_new (K := K) e1 nq1 k2.pot
            walk_at "st"
            refine ⟨by show 1 ≤ sizeLine; decide, fun q2 nq2 => ?_⟩
            generalize e2 : upd J3 q2 _ = J4
            obtain ⟨k4, t4⟩ := at_new (K := K) e2 nq2 k3.pot
            have k14 := ((k1.trans k2).trans k3).trans k4
            refine catM k4.pot (sqt_mv t1 ((k2.trans k3).trans k4)) t4 (by show _ + 1 ≤ 1000; omega) fun r2 J5 k5 t5 => ?_
            walk_at "st"
            refine cutM k5.pot (sqt_mv hp6 (k14.trans k5)) fun r3 J6 k6 t6 => ?_
            refine catM k6.pot (sqt_mv t5 k6) t6 (by rw [List.length_append]; show _ + 1 + _ ≤ 1000; omega) fun r4 J7 k7 t7 => ?_
            have m := ((k14.trans k5).trans k6).trans k7
            have mid : Pk K a 220000 2 J7 (.ref q1) := pk_two (sqt_mv t3 (((k4.trans k5).trans k6).trans k7)) (pv.mv ((((k3.trans k4).trans k5).trans k6).trans k7)) ((pk_word (signs_w hy)).mono (by decide) (by decide)) (by decide)
            refine fin m t7 ?_ (by rw [List.length_append, List.length_append]; show _ + 1 + _ ≤ 8; omega)
            refine pk_app (pk_app (pk_cut fun v hv => (prs6 v hv).mv m) fun v hv => ?_) (pk_cut fun v hv => (prs6 v hv).mv m)
            rw [List.mem_singleton.mp hv]
            exact mid
          · rw [decide_eq_false c3]
            refine iteF ?_
            walk_at "st"
            by_cases c4 : way = 4
            · rw [decide_eq_true c4]
              refine iteT ?_
              walk_at "st"
              refine cutM m06.pot hp6 fun r1 J1 k1 t1 => ?_
              walk_at "st"
              refine ⟨a, y, rfl, k1.pot, signs_w hy, fun J2 v k2 pv => ?_⟩
              walk_at "st"
              refine ⟨by show 2 ≤ sizeLine; decide, fun q1 nq1 => ?_⟩
              generalize e1 : upd J2 q1 _ = J3
              obtain ⟨k3, t3⟩ := at_new (K := K) e1 nq1 k2.pot
              walk_at "st"
              refine ⟨by show 1 ≤ sizeLine; decide, fun q2 nq2 => ?_⟩
              generalize e2 : upd J3 q2 _ = J4
              obtain ⟨k4, t4⟩ := at_new (K := K) e2 nq2 k3.pot
              have k14 := ((k1.trans k2).trans k3).trans k4
              refine catM k4.pot (sqt_mv t1 ((k2.trans k3).trans k4)) t4 (by show _ + 1 ≤ 1000; omega) fun r2 J5 k5 t5 => ?_
              walk_at "st"
              refine cutM k5.pot (sqt_mv hp6 (k14.trans k5)) fun r3 J6 k6 t6 => ?_
              refine catM k6.pot (sqt_mv t5 k6) t6 (by rw [List.length_append]; show _ + 1 + _ ≤ 1000; omega) fun r4 J7 k7 t7 => ?_
              have m := ((k14.trans k5).trans k6).trans k7
              have mid : Pk K a 220000 2 J7 (.ref q1) := pk_two (sqt_mv t3 (((k4.trans k5).trans k6).trans k7)) ((pk_word (name_w hz)).mono (by decide) (by decide)) (pv.mv ((((k3.trans k4).trans k5).trans k6).trans k7)) (by decide)
              refine fin m t7 ?_ (by rw [List.length_append, List.length_append]; show _ + 1 + _ ≤ 8; omega)
              refine pk_app (pk_app (pk_cut fun v hv => (prs6 v hv).mv m) fun v hv => ?_) (pk_cut fun v hv => (prs6 v hv).mv m)
              rw [List.mem_singleton.mp hv]
              exact mid
            · rw [decide_eq_false c4]
              refine iteF ?_
              walk_at "st"
              refine ⟨by show 2 ≤ sizeLine; decide, fun p1 np1 => ?_⟩
              generalize e1 : upd H6 p1 _ = G1
              obtain ⟨n1, s1, _, _⟩ := at_newL (K := K) e1 np1 m6.pot
              walk_at "st"
              refine ⟨by show 1 ≤ sizeLine; decide, fun p2 np2 => ?_⟩
              generalize e2 : upd G1 p2 _ = G2
              obtain ⟨n2, s2⟩ := at_new (K := K) e2 np2 n1.pot
              walk_at "st"
              refine ⟨by show 3 ≤ sizeLine; decide, fun p3 np3 => ?_⟩
              generalize e3 : upd G2 p3 _ = G3
              obtain ⟨n3, s3⟩ := at_new (K := K) e3 np3 n2.pot
              walk_at "st"
              refine ⟨by show 2 ≤ sizeLine; decide, fun p4 np4 => ?_⟩
              generalize e4 : upd G3 p4 _ = G4
              obtain ⟨n4, s4⟩ := at_new (K := K) e4 np4 n3.pot
              walk_at "st"
              refine s_disp fun p5 np5 => ?_
              show tVar 5 _ _ _
              walk_at "st"
              refine ⟨upd_same, [(.inr z, .str y)], rfl, by show 1 ≤ 15; decide, ?_⟩
              rw [show mergeK [] [((.inr z : Key), V.str y)] = [(.inr z, .str y)] from rfl]
              generalize e5 : upd (upd G4 p5 _) p5 _ = G5
              have n5 : Mv a G4 G5 := by rw [← e5, upd_upd]; exact (Mv.refl n4.pot).new np5
              have a5 : G5 p5 = some (.dK [(.inr z, .str y)]) := by rw [← e5]; exact upd_same
              have ne5 : p5 ≠ a := Mv.ne n4.pot (Mv.refl n4.pot) np5
              walk_at "st"
              refine ⟨by show 1 ≤ sizeLine; decide, fun p6 np6 => ?_⟩
              generalize e6 : upd G5 p6 _ = G6
              obtain ⟨n6, s6⟩ := at_new (K := K) e6 np6 n5.pot
              walk_at "st"
              refine ⟨by show 2 ≤ sizeLine; decide, fun p7 np7 => ?_⟩
              generalize e7 : upd G6 p7 _ = G7
              obtain ⟨n7, s7⟩ := at_new (K := K) e7 np7 n6.pot
              walk_at "st"
              refine ⟨by show 8 ≤ sizeLine; decide, fun pa npa => ?_⟩
              generalize ea : upd G7 pa _ = G8
              obtain ⟨n8, s8, ne8, h8⟩ := at_newL (K := K) ea npa n7.pot
              walk_at "st"
              refine ⟨by show 2 ≤ sizeLine; decide, fun p8 np8 => ?_⟩
              generalize e9 : upd G8 p8 _ = G9
              obtain ⟨n9, s9⟩ := at_new (K := K) e9 np8 n8.pot
              walk_at "st"
              have ly : y.length ≤ 8 := (Sm.of_word (signs_w hy)).len
              refine ⟨by rw [sizeLine_eq]; omega, fun p9 np9 => ?_⟩
              generalize e10 : upd G9 p9 _ = G10
              obtain ⟨n10, s10, _, _⟩ := at_newL (K := K) e10 np9 n9.pot
              walk_at "st"
              refine ⟨by show 2 ≤ sizeLine; decide, fun p10 np10 => ?_⟩
              generalize e11 : upd G10 p10 _ = G11
              obtain ⟨n11, s11⟩ := at_new (K := K) e11 np10 n10.pot
              walk_at "st"
              refine ⟨by show 0 ≤ sizeLine; decide, fun p11 np11 => ?_⟩
              generalize e12 : upd G11 p11 _ = G12
              obtain ⟨n12, s12⟩ := at_new (K := K) e12 np11 n11.pot
              walk_at "st"
              refine ⟨by show 4 ≤ sizeLine; decide, fun pb npb => ?_⟩
              generalize eb : upd G12 pb _ = G13
              obtain ⟨n13, s13, ne13, h13⟩ := at_newL (K := K) eb npb n12.pot
              have h8' := ((((n9.trans n10).trans n11).trans n12).trans n13).at ne8 h8
              refine cat_lst h8' h13 (by show 8 + 4 ≤ 1000; decide) fun pc npc => ?_
              generalize ec : upd G13 pc _ = G14
              obtain ⟨n14, s14, ne14, h14⟩ := at_newL (K := K) ec npc n13.pot
              have u13 := n13.trans n14
              have u12 := n12.trans u13
              have u11 := n11.trans u12
              have u10 := n10.trans u11
              have u9 := n9.trans u10
              have u8 := n8.trans u9
              have u7 := n7.trans u8
              have u6 := n6.trans u7
              have u5 := n5.trans u6
              have u4 := n4.trans u5
              have u3 := n3.trans u4
              have u2 := n2.trans u3
              have u1 := n1.trans u2
              clear e1 e2 e3 e4 e5 e6 e7 e9 e10 e11 e12 ea eb ec ef
              walk_at "st"
              refine cutM n14.pot (sqt_mv hp6 u1) fun r1 J1 k1 t1 => ?_
              walk_at "st"
              refine ⟨a, k1.pot, .inl ⟨pc, _, rfl, .inl (sql_mv s14 k1), by show 0 < 12; decide, by show 12 < 1000000; decide, fun J2 v k2 hv => ?_⟩⟩
              walk_at "st"
              have pv : Pk K a 220000 2 J2 v := by
                have kk := k1.trans k2
                have wz : ∀ {G : Hp}, Pk K a 82 0 G (.str z) := pk_word (name_w hz)
                have wy : ∀ {G : Hp}, Pk K a 82 0 G (.str y) := pk_word (signs_w hy)
                simp only [List.mem_append, List.mem_cons, List.not_mem_nil, or_false] at hv
                rcases hv with (rfl | rfl | rfl | rfl | rfl | rfl | rfl | rfl) | (rfl | rfl | rfl | rfl)
                · refine (Pk.lst (n := 0) (k := 2) (V := 400) (sql_mv s1 (u2.trans kk)) (fun u hu => ?_) (Nat.le_refl _) (by decide : 3 + 2 * (82 + 2) ≤ 400)).mono (by decide) (by decide)
                  simp only [List.mem_cons, List.not_mem_nil, or_false] at hu
                  rcases hu with rfl | rfl
                  · exact wz
                  · exact wy
                · exact (pk_one (V := 400) (sqt_mv s2 (u3.trans kk)) wz (by decide)).mono (by decide) (by decide)
                · refine (Pk.tup (n := 0) (k := 3) (V := 400) (sqt_mv s3 (u4.trans kk)) (fun u hu => ?_) (Nat.le_refl _) (by decide : 3 + 3 * (82 + 2) ≤ 400)).mono (by decide) (by decide)
                  simp only [List.mem_cons, List.not_mem_nil, or_false] at hu
                  rcases hu with rfl | rfl | rfl
                  · exact wz
                  · exact wy
                  · exact wy
                · exact (pk_two (V := 400) (sqt_mv s4 (u5.trans kk)) wy wz (by decide)).mono (by decide) (by decide)
                · exact ⟨.none, .non, Fit.none (by decide)⟩
                · exact wz.mono (by decide) (by decide)
                · refine (pk_dict (kvs := [(.inr z, .str y)]) ne5 ((u6.trans kk).at ne5 a5) (fun q hq => ?_) (by show 1 ≤ 3; decide)).mono (by decide) (by decide)
                  exact ⟨z, y, List.mem_singleton.mp hq, Sm.of_word (name_w hz), Sm.of_word (signs_w hy)⟩
                · have in6 : Pk K a 400 1 J2 (.ref p6) := pk_one (sqt_mv s6 (u7.trans kk)) wy (by decide)
                  exact (pk_two (V := 1000) (sqt_mv s7 (u8.trans kk)) (wz.mono (by decide) (by decide)) in6 (by decide)).mono (by decide) (by decide)
                · exact (pk_two (V := 400) (sqt_mv s9 (u10.trans kk)) wz wy (by decide)).mono (by decide) (by decide)
                · exact (fresh5.mv ((m6.trans u1).trans kk)).pk.mono (by decide) (by decide)
                · have in9 : Pk K a 1000 1 J2 (.ref p9) := by
                    refine Pk.lst (W := 12) (k := 8) (n := 0) (sql_mv s10 (u11.trans kk)) (fun u hu => ?_) ?_ (by decide)
                    · rw [signsV_is] at hu
                      obtain ⟨q, hq, rfl⟩ := List.mem_map.mp hu
                      obtain ⟨c, hc, rfl⟩ := List.mem_map.mp hq
                      refine Pk.str (k := 1) ⟨Nat.le_refl 1, fun d hd => ?_⟩ (by decide)
                      have e : d = c := by simpa using hd
                      rw [e]
                      exact (Sm.of_word (signs_w hy)).sg c hc
                    · unfold signsV
                      rw [List.length_map, Array.length_toList]
                      exact ly
                  exact (pk_two (V := 3000) (sqt_mv s11 (u12.trans kk)) (wz.mono (by decide) (by decide)) in9 (by decide)).mono (by decide) (by decide)
                · exact (Pk.tup (W := 0) (k := 0) (V := 400) (sqt_mv s12 (u13.trans kk)) (fun u hu => nomatch hu) (Nat.le_refl _) (by decide)).mono (by decide) (by decide : 0 + 1 ≤ 2)
              refine ⟨by show 1 ≤ sizeLine; decide, fun q2 nq2 => ?_⟩
              generalize e2 : upd J2 q2 _ = J4
              obtain ⟨k4, t4⟩ := at_new (K := K) e2 nq2 k2.pot
              have k14 := (k1.trans k2).trans k4
              refine catM k4.pot (sqt_mv t1 (k2.trans k4)) t4 (by show _ + 1 ≤ 1000; omega) fun r2 J5 k5 t5 => ?_
              walk_at "st"
              refine cutM k5.pot (sqt_mv hp6 (u1.trans (k14.trans k5))) fun r3 J6 k6 t6 => ?_
              refine catM k6.pot (sqt_mv t5 k6) t6 (by rw [List.length_append]; show _ + 1 + _ ≤ 1000; omega) fun r4 J7 k7 t7 => ?_
              have m := u1.trans (((k14.trans k5).trans k6).trans k7)
              refine fin m t7 ?_ (by rw [List.length_append, List.length_append]; show _ + 1 + _ ≤ 8; omega)
              refine pk_app (pk_app (pk_cut fun v hv => (prs6 v hv).mv m) fun v hv => ?_) (pk_cut fun v hv => (prs6 v hv).mv m)
              rw [List.mem_singleton.mp hv]
              exact pv.mv (((k4.trans k5).trans k6).trans k7)
end
end Z
namespace Z
open PySem PySem.Spec PyProof.Rows L2 G
section
variable {P : Program} {w : World} {K : PySem.W.Frag} {mg : Str → Option Value} {base : Heap}
/-- an own class of errors over ValueError, without __init__ -/
structure Err (K : PySem.W.Frag) (mg : Str → Option Value) (n : Str) (C : Addr) : Prop where
  g : mg n = some (.ref C)
  x : PySem.W.excIn K C [.type "ValueError", .type "Exception", .type "BaseException", .type "object"] "ValueError.__new__" = true
  k : PySem.W.keepIn K (.ref C) = true
  b : PySem.W.subIn K (.ref C) (.type "BaseException") = some true
  t : PySem.W.typeIn K (.ref C) = some (.type "type")
  e : PySem.W.exmOne K (.ref C) (.ref C) = some true
/-- the class of streams -/
structure StrmC (K : PySem.W.Frag) (C : Addr) : Prop where
  cl : Cls K C
  n1 : NoAttr K C "_sources"
  n2 : NoAttr K C "_sinks"
  n3 : NoAttr K C "_names"
  n4 : NoAttr K C "_signs"
/-- what streams hold -/
def sF (v u n m : V) : List (Str × V) := [("_sources", v), ("_sinks", u), ("_names", n), ("_signs", m)]
theorem s_sfld {σ : L2.St} {H : Hp} {D : Ends} {ta tv : TE} {f : Str} (q : tv σ H fun y H1 => ta σ H1 fun x H2 => ∃ a C dx fs, x = .ref a ∧ H2 a = some (.ins C dx fs) ∧ Cls K C ∧ NoAttr K C f ∧ fs.length < 1000 ∧ D.nx σ (upd H2 a (.ins C dx (putF f y fs)))) : sFld K ta tv f D σ H := q
/-- a dict comprehension over what J walks, from here on -/
def DcOk (J : It) (g : TG) (tt : TT) (tk tv : TE) (vs : List Nat) (σ : L2.St) (H1 : Hp) (Q : VK) : Prop := ∀ D, H1 D = none → ∃ W : Nat → Nat → Hp → Prop, (∃ m, W 0 m (upd H1 D (.dK []))) ∧ ∀ i m H, W i m H →
  (J.stop i H ∧ Q (.ref D) H) ∨ (J.go i H ∧ ∃ Nx : Hp → Prop, (∀ H', Nx H' → ∃ m', m' < m ∧ W (i + 1) m' H') ∧ ∀ x H', J.yld i H x H' → g x (wipe σ vs) H' fun σ2 H2 => wipe σ2 vs = wipe σ vs ∧ tt σ2 H2 fun b H3 =>
    if b = true then tk σ2 H3 fun y H4 => tv σ2 H4 fun z H5 => ∃ kvs k, y = kV k ∧ H5 D = some (.dK kvs) ∧ kvs.length < sizeLine ∧ Nx (upd H5 D (.dK (putK kvs k z))) else Nx H3)
theorem s_dc {wi : TI} {g : TG} {tt : TT} {tk tv : TE} {vs : List Nat} {σ : L2.St} {H : Hp} {Q : VK} (q : wi σ H fun J H1 => DcOk J g tt tk tv vs σ H1 Q) : tDc wi g tt tk tv vs σ H Q := q
theorem putK_len (kvs : List (Key × V)) (k : Key) (v : V) : (putK kvs k v).length ≤ kvs.length + 1 := by
  unfold putK
  split
  · rw [List.length_map]
    exact Nat.le_succ _
  · rw [List.length_append]
    exact Nat.le_refl _
theorem put_past {f g : Str} {v x : V} {r : List (Str × V)} (h : ¬ g = f) : putF f v ((g, x) :: r) = (g, x) :: putF f v r := if_neg h
abbrev sF1 (v : V) : List (Str × V) := [("_sources", v)]
abbrev sF2 (v u : V) : List (Str × V) := [("_sources", v), ("_sinks", u)]
abbrev sF3 (v u n : V) : List (Str × V) := [("_sources", v), ("_sinks", u), ("_names", n)]
theorem putF2 (v u : V) : putF "_sinks" u (sF1 v) = sF2 v u := (put_past (by decide +kernel)).trans rfl
theorem putF3 (v u n : V) : putF "_names" n (sF2 v u) = sF3 v u n := (put_past (by decide +kernel)).trans (congrArg _ ((put_past (by decide +kernel)).trans rfl))
theorem putF4 (v u n m : V) : putF "_signs" m (sF3 v u n) = sF v u n m := (put_past (by decide +kernel)).trans (congrArg _ ((put_past (by decide +kernel)).trans (congrArg _ ((put_past (by decide +kernel)).trans rfl))))
/-- all but p stands -/
abbrev Kp (p : Addr) (H H1 : Hp) : Prop := Same (hid p H) (hid p H1)
theorem Kp.of {p : Addr} {H H1 : Hp} (s : Same H H1) : Kp p H H1 := same_hidden s
theorem Kp.set {p : Addr} {H H1 : Hp} {o : HO} (s : Kp p H H1) : Kp p H (upd H1 p o) := by
  unfold Kp
  rw [hid_upd]
  exact s
theorem Kp.at {p b : Addr} {H H1 : Hp} {o : HO} (s : Kp p H H1) (e : H b = some o) (ne : b ≠ p) : H1 b = some o := (hid_some (s b o (by rw [hid_ne ne]; exact e))).2
theorem Dz.kp {p : Addr} {H H1 : Hp} {v : V} {d : PyData} (h : Dz K (hid p H) v d) (s : Kp p H H1) : Dz K (hid p H1) v d := Dz.same s d v h
/-- {name: signs for name, signs in pairs} of well formed pairs -/
theorem dc_names {σ : L2.St} {vs : List Nat} {i j : Nat} {p : Addr} {xs : List V} {ds : List PyData} {H : Hp} {Q : VK} (hx : SqT K H p xs) (hd : DzAll K H xs ds) (good : ∀ d ∈ ds, strmD d = true) (few : ds.length ≤ 1000)
    (hw : ∀ x y, wipe (((wipe σ vs).set i (some x)).set j (some y)) vs = wipe σ vs) (hi : ∀ x y, (((wipe σ vs).set i (some x)).set j (some y))[i]? = some (some x)) (hj : ∀ x y, (((wipe σ vs).set i (some x)).set j (some y))[j]? = some (some y))
    (done : ∀ L H2, H L = none → Same H H2 → Q (.ref L) H2) :
    DcOk (Itt K p) (gTup K 2 (gCons (gName i) (gCons (gName j) gNil))) tYes (tVar i) (tVar j) vs σ H Q := by
  intro D fresh
  refine dc_tup (fun n H1 => Same H H1 ∧ ∃ kvs : List (Key × V), H1 D = some (.dK kvs) ∧ kvs.length ≤ n) ⟨same_new (Same.refl H) fresh, [], upd_same, Nat.le_refl _⟩ (fun n H1 _ h => same_sqt h.1 hx) ?_ fun H1 h => done D H1 fresh h.1
  rintro n x H1 hn ⟨m, kvs, at_, len⟩
  have lt : n < ds.length := by
    rw [← hd.len]
    exact (List.getElem?_eq_some_iff.mp hn).1
  obtain ⟨d, hdi, dz⟩ := hd.get hn
  obtain ⟨a, z, y, rfl, ha, rfl, _, _⟩ := pair_of dz (good d (List.mem_of_getElem? hdi))
  refine ⟨a, [.str z, .str y], rfl, same_sqt m ha, rfl, ?_⟩
  refine s_gcons (s_name (s_gcons (s_name (s_gnil ?_))))
  refine ⟨hw _ _, s_yes (iteT ?_)⟩
  refine s_var (hi _ _) (s_var (hj _ _) ?_)
  refine ⟨kvs, .inr z, rfl, at_, by rw [sizeLine_eq]; omega, same_upd m fresh, _, upd_same, ?_⟩
  exact Nat.le_trans (putK_len _ _ _) (Nat.add_le_add_right len 1)
theorem Dz.tuple {H : Hp} {v : V} {ds : List PyData} (h : Dz K H v (.tuple ds)) : ∃ a xs, v = .ref a ∧ SqT K H a xs ∧ DzAll K H xs ds := by
  cases h with
  | tup a b => exact ⟨_, _, rfl, a, b⟩
/-- streams are made, or refused -/
def spStreams (K : PySem.W.Frag) (C CF : Addr) : Sp := fun vs H Q E => ∃ p dx v u d e, vs = [.ref p, v, u] ∧ H p = some (.ins C dx []) ∧ Dz K (hid p H) v d ∧ Dz K (hid p H) u e ∧ wt d ≤ 10000000 ∧ wt e ≤ 10000000 ∧
  (strsD d e = false → ∀ H1, Same H H1 → E (.ref CF) none H1) ∧
  (strsD d e = true → ∀ H1 n m, (∀ b o, H b = some o → b ≠ p → H1 b = some o) → H1 p = some (.ins C dx (sF v u n m)) → Q .non H1)
abbrev sStreams___init__ : Stmt := inClass (topS 17) 0
theorem scStreams___init__ : FnScope ["self", "sources", "sinks", "pair", "name", "signs"] ["self", "sources", "sinks"] (defScope sStreams___init__) := ⟨rfl, rfl, rfl, by decide +kernel, rfl, by decide +kernel, by decide +kernel⟩
theorem ok_streams {f C CF fas fk fst fn fs fl : Addr} {fd fdas fdk fdst fdn fds fdl : FuncData} (T : Txt2 mg) (N8 : Num mg "MAX_NAME" 8) (N4 : Num mg "MAX_SIGNS" 4) (N3 : Num mg "MAX_KIND" 3) (F : Fun K "__init__" "Streams.__init__" sStreams___init__ f fd) (SC : StrmC K C) (XInvalidStreams : Err K mg "InvalidStreams" CF)
    (D_are_streams : Def K mg "_are_streams" s_are_streams ["sources", "sinks"] fas fdas) (D_are_kind : Def K mg "_are_kind" s_are_kind ["value", "fewest"] fk fdk) (D_is_stream : Def K mg "_is_stream" s_is_stream ["value"] fst fdst)
    (Dis_name : Def K mg "is_name" sis_name ["value"] fn fdn) (Dis_signs : Def K mg "is_signs" sis_signs ["value"] fs fds) (Dare_letters : Def K mg "are_letters" sare_letters ["text"] fl fdl) : FnOk P w K mg base (L2.CX P w) 6 f fd ["self", "sources", "sinks"] (spStreams K C CF) := by
  have G_are_streams : FnOk P w K mg base CX0 5 fas fdas ["sources", "sinks"] (spBoth K) := ok_are_streams T N8 N4 N3 D_are_streams D_are_kind D_is_stream Dis_name Dis_signs Dare_letters
  refine F.okX scStreams___init__ (fun vs H Q E h => ?_) (fun cdv A outer s H vs Q E hr h => ?_)
  · obtain ⟨p, dx, v, u, d, e, rfl, _⟩ := h
    rfl
  · obtain ⟨p, dx, v, u, d, e, rfl, hp, dz, dy, ld, le, no, yes⟩ := h
    have hu := hr.units
    refine ⟨_, (pss_cons (ps_if (pt_not (pt_val (pe_call G_are_streams (hr.mono (by decide)) (by rfl) D_are_streams.g D_are_streams.F.kp D_are_streams.b .nil pass0 (pa_cons (pv 1) (pa_cons (pv 2) pa_nil)))))
  (pss_one (ps_raise rfl (takes_of rfl rfl rfl rfl) (pmk_own PySem.F.excBase_ValueError (XInvalidStreams).x (XInvalidStreams).g (XInvalidStreams).k (raises_own (XInvalidStreams).b (XInvalidStreams).t) (by exact rfl))))
  pss_nil)
 (pss_cons (ps_fld (pv 0) (pv 1) rfl)
 (pss_cons (ps_fld (pv 0) (pv 2) rfl)
 (pss_cons (ps_fld (pv 0) (pe_callTy (Z.k_tuple (K := K)) (by rfl) T.tuple (by decide +kernel) (pa_cons (pe_lc (own := [("pair", 3)]) (by rfl) scStreams___init__.nd (pi_tup (pe_op (Z.k_add (K := K)) (pv 1) (pv 2))) (blkOk_by (own := [("pair", 3)]) (N := ["self", "sources", "sinks", "pair", "name", "signs"]) (sc := defScope sStreams___init__) (by decide +kernel))
   (fun _ _ _ _ _ => (pg_name (i := 3) scStreams___init__.nd rfl (by first | exact Or.inl rfl | exact Or.inr rfl))) (fun _ _ _ _ _ => pts_nil) (fun _ _ _ _ _ => (pe_ix (Z.k_item (K := K)) (pv 3) pe_int (fun _ _ => rfl)))) pa_nil)) rfl)
 (pss_one (ps_fld (pv 0) (pe_dc (own := [("name", 4), ("signs", 5)]) (by rfl) scStreams___init__.nd (pi_tup (pe_op (Z.k_add (K := K)) (pv 1) (pv 2))) (blkOk_by (own := [("name", 4), ("signs", 5)]) (N := ["self", "sources", "sinks", "pair", "name", "signs"]) (sc := defScope sStreams___init__) (by decide +kernel))
   (fun _ _ _ _ _ => (Z.k_tup (K := K) (n := 2) rfl (pgs_cons (pg_name (i := 4) scStreams___init__.nd rfl (by first | exact Or.inl rfl | exact Or.inr rfl)) (pgs_cons (pg_name (i := 5) scStreams___init__.nd rfl (by first | exact Or.inl rfl | exact Or.inr rfl)) pgs_nil)))) (fun _ _ _ _ _ => pts_nil) (fun _ _ _ _ _ => (pv 4)) (fun _ _ _ _ _ => (pv 5))) rfl)))))), ?_⟩
    walk_at "st"
    refine ⟨v, u, d, e, rfl, dz.un, dy.un, ld, le, fun H1 m => ?_⟩
    refine s_bl (P := _) ?_
    cases b : strsD d e with
    | false =>
      refine iteT ?_
      exact no b H1 m
    | true =>
      refine iteF ?_
      walk_at "st"
      obtain ⟨b1, b2⟩ : kindD 1 d = true ∧ kindD 0 e = true := by
        unfold strsD at b
        rw [Bool.and_eq_true, Bool.and_eq_true] at b
        exact b.1
      obtain ⟨ds, rfl, d1, d3, dg⟩ := kind_of b1
      obtain ⟨es, rfl, _, e3, eg⟩ := kind_of b2
      have h1 := m _ _ hp
      have k1 : Kp p H H1 := Kp.of m
      with_reducible refine s_sfld ?_
      walk_at "st"
      refine ⟨p, C, dx, [], rfl, h1, SC.cl, SC.n1, by decide, ?_⟩
      rw [show putF "_sources" v ([] : List (Str × V)) = sF1 v from rfl]
      generalize e1 : upd H1 p _ = H2
      have h2 : H2 p = some (.ins C dx (sF1 v)) := by rw [← e1]; exact upd_same
      have k2 : Kp p H H2 := by rw [← e1]; exact k1.set
      walk_at "st"
      with_reducible refine s_sfld ?_
      walk_at "st"
      refine ⟨p, C, dx, _, rfl, h2, SC.cl, SC.n2, by show 1 < 1000; decide, ?_⟩
      rw [putF2]
      generalize e2 : upd H2 p _ = H3
      have h3 : H3 p = some (.ins C dx (sF2 v u)) := by rw [← e2]; exact upd_same
      have k3 : Kp p H H3 := by rw [← e2]; exact k2.set
      have dz3 := (dz.kp k3).un
      have dy3 := (dy.kp k3).un
      clear e1 e2
      obtain ⟨av, xs, rfl, ha, had⟩ := dz3.tuple
      obtain ⟨au, ys, rfl, hb, hbd⟩ := dy3.tuple
      have l1 := had.len
      have l2 := hbd.len
      have good : ∀ d ∈ ds ++ es, strmD d = true := by
        intro d hd
        rcases List.mem_append.mp hd with hd | hd
        · exact dg d hd
        · exact eg d hd
      have few : (ds ++ es).length ≤ 1000 := by
        rw [List.length_append]
        omega
      walk_at "st"
      with_reducible refine s_sfld ?_
      walk_at "st"
      refine cat_tup ha hb (by omega) fun q H4 m4 hq => ?_
      walk_at "st"
      refine ⟨⟨_, hq⟩, comp_names (ds := ds ++ es) hq ((DzAll.same m4 _ _ had).app (DzAll.same m4 _ _ hbd)) good few (fun _ => rfl) (fun _ => rfl) ?_⟩
      intro L H5 fresh m5 hL
      walk_at "st"
      refine ⟨_, .inl ⟨SqL.of hL, fun t nt => ?_⟩⟩
      generalize e6 : upd H5 t _ = H6
      have m6 : Same H3 H6 := by rw [← e6]; exact same_new (m4.trans m5) nt
      walk_at "st"
      refine ⟨p, C, dx, _, rfl, m6 _ _ h3, SC.cl, SC.n3, by show 2 < 1000; decide, ?_⟩
      rw [putF3]
      generalize e7 : upd H6 p _ = H7
      have h7 : H7 p = some (.ins C dx (sF3 (.ref av) (.ref au) (.ref t))) := by rw [← e7]; exact upd_same
      have k7 : Kp p H H7 := by
        rw [← e7]
        exact Kp.set (k3.trans (Kp.of m6))
      have dz7 := (dz.kp k7).un
      have dy7 := (dy.kp k7).un
      clear e6 e7
      obtain ⟨_, xs7, ea7, ha7, had7⟩ := dz7.tuple
      obtain ⟨_, ys7, eb7, hb7, hbd7⟩ := dy7.tuple
      cases ea7
      cases eb7
      have l17 := had7.len
      have l27 := hbd7.len
      walk_at "st"
      with_reducible refine s_sfld ?_
      with_reducible refine s_dc ?_
      walk_at "st"
      refine cat_tup ha7 hb7 (by omega) fun q8 H8 m8 hq8 => ?_
      refine ⟨q8, rfl, ⟨_, hq8⟩, ?_⟩
      refine dc_names (ds := ds ++ es) hq8 ((DzAll.same m8 _ _ had7).app (DzAll.same m8 _ _ hbd7)) good few (fun _ _ => rfl) (fun _ _ => rfl) (fun _ _ => rfl) ?_
      intro L9 H9 fresh9 m9
      walk_at "st"
      refine ⟨p, C, dx, _, rfl, (m8.trans m9) _ _ h7, SC.cl, SC.n4, by show 3 < 1000; decide, ?_⟩
      rw [putF4]
      refine yes b _ (.ref t) (.ref L9) (fun b o hb ne => ?_) upd_same
      exact Kp.at (Kp.set (k7.trans (Kp.of (m8.trans m9)))) hb ne
end
end Z
namespace Z
open PySem PySem.Spec PyProof.Rows L2 G
section
variable {P : Program} {w : World} {K : PySem.W.Frag} {mg : Str → Option Value} {base : Heap}
theorem s_make {C : Addr} {sp : Sp} {E : XK} {t : TA} {σ : L2.St} {H : Hp} {Q : VK} (q : t σ H fun vs H1 => ∀ x dx, H1 x = none → H1 dx = none → dx ≠ x → sp (.ref x :: vs) (upd (upd H1 dx (.own x)) x (.ins C dx [])) (fun v H2 => v = .non ∧ Q (.ref x) H2) E) : tMake C sp [] E t σ H Q := by
  unfold tMake
  simp only [List.append_nil]
  exact q
/-- streams are met, or none -/
def spMet (K : PySem.W.Frag) (C : Addr) : Sp := fun vs H Q _ => ∃ v u d e, vs = [v, u] ∧ Dz K H v d ∧ Dz K H u e ∧ wt d ≤ 10000000 ∧ wt e ≤ 10000000 ∧
  (strsD d e = true → ∀ H1 p dx n m, Same H H1 → H1 p = some (.ins C dx (sF v u n m)) → Q (.ref p) H1) ∧ (strsD d e = false → ∀ H1, Same H H1 → Q .non H1)
abbrev s_law_met : Stmt := topS 36
theorem sc_law_met : FnScope ["sources", "sinks"] ["sources", "sinks"] (defScope s_law_met) := ⟨rfl, rfl, rfl, by decide +kernel, rfl, by decide +kernel, by decide +kernel⟩
theorem ok_met {f fI C CF fas fk fst fn fs fl : Addr} {fd fdI fdas fdk fdst fdn fds fdl : FuncData} (T : Txt2 mg) (N8 : Num mg "MAX_NAME" 8) (N4 : Num mg "MAX_SIGNS" 4) (N3 : Num mg "MAX_KIND" 3) (D : Def K mg "_law_met" s_law_met ["sources", "sinks"] f fd)
    (MStreams : Mk K C fI) (F : Fun K "__init__" "Streams.__init__" sStreams___init__ fI fdI) (bStreams : Binds K fdI ["self", "sources", "sinks"] []) (gStreams : mg "Streams" = some (.ref C)) (SC : StrmC K C) (XInvalidStreams : Err K mg "InvalidStreams" CF)
    (D_are_streams : Def K mg "_are_streams" s_are_streams ["sources", "sinks"] fas fdas) (D_are_kind : Def K mg "_are_kind" s_are_kind ["value", "fewest"] fk fdk) (D_is_stream : Def K mg "_is_stream" s_is_stream ["value"] fst fdst)
    (Dis_name : Def K mg "is_name" sis_name ["value"] fn fdn) (Dis_signs : Def K mg "is_signs" sis_signs ["value"] fs fds) (Dare_letters : Def K mg "are_letters" sare_letters ["text"] fl fdl) : FnOk P w K mg base CX0 8 f fd ["sources", "sinks"] (spMet K C) := by
  have GStreams : FnOk P w K mg base (L2.CX P w) 6 fI fdI ["self", "sources", "sinks"] (spStreams K C CF) := ok_streams T N8 N4 N3 F SC XInvalidStreams D_are_streams D_are_kind D_is_stream Dis_name Dis_signs Dare_letters
  refine D.F.ok sc_law_met (fun vs H Q E h => ?_) (fun cdv A outer s H vs Q E hr h => ?_)
  · obtain ⟨v, u, d, e, rfl, _⟩ := h
    rfl
  · obtain ⟨v, u, d, e, rfl, dz, dy, ld, le, yes, no⟩ := h
    have hu := hr.units
    refine ⟨_, (pss_one (ps_try_only rfl rfl ⟨rfl, by decide, .inl (XInvalidStreams).g⟩ takes0 (fun W pn xe tk _ => (pss_one (ps_ret (pe_make (E := fun cls d H => ∀ σ, W cls d σ H) MStreams GStreams (hr.mono (by decide)) (by rfl) gStreams bStreams .nil (passes_call tk fun _ _ σ _ h => h σ) (pa_cons (pv 0) (pa_cons (pv 1) pa_nil))))))
  (fun _ _ _ _ _ _ _ => (pss_one (ps_ret pe_non))))), ?_⟩
    walk_at "st"
    with_reducible refine s_make ?_
    walk_at "st"
    intro x dx nx ndx ne
    have sm : Same H (hid x (upd (upd H dx (.own x)) x (.ins C dx []))) := by
      intro b o hb
      have nb : b ≠ x := ne_of_none hb nx
      rw [hid_ne nb, upd_ne nb, upd_ne (ne_of_none hb ndx)]
      exact hb
    refine ⟨x, dx, v, u, d, e, rfl, upd_same, Dz.same sm _ _ dz, Dz.same sm _ _ dy, ld, le, fun b H1 m => ?_, fun b H1 n m keep hx => ?_⟩
    · intro σ
      refine ⟨true, XInvalidStreams.e, fun _ a na => ?_, fun q => Bool.noConfusion q⟩
      walk_at "st"
      exact no b H1 fun c o hc => m _ _ ((hid_some (sm c o hc)).2)
    · refine ⟨rfl, yes b H1 x dx n m (fun c o hc => ?_) hx⟩
      obtain ⟨nc, hc2⟩ := hid_some (sm c o hc)
      exact keep c o hc2 nc
end
end Z
namespace Z
open PySem PySem.Spec PyProof.Rows L2 G
section
variable {P : Program} {w : World} {K : PySem.W.Frag} {mg : Str → Option Value} {base : Heap}
theorem k_repr {X : Cx} {k : Nat} (quiet : Quiet X.A) (room : Room k X.A) (h : X.K = K := by rfl) : CallR X (.builtin "repr") (rRepr K) := by
  subst h
  exact call_repr quiet room
/-- as of_body, for a body in which nothing is raised -/
theorem of_calm {k : Nat} {f : Addr} {fd : FuncData} {ps N : List Str} {sp : Sp} {x qual : Str} {st : Stmt} (F : Fun K x qual st f fd) (S : FnScope N ps (defScope st)) (many : ∀ vs H Q E, sp vs H Q E → vs.length = ps.length)
    (body : ∀ (cdv : Value) (A : Around), Quiet A → ∀ (outer : List Env) (s : Shared) (H : Hp) (vs : List V) (Q : VK) (E : XK), Room k (A.deeper (envOfC qual (defScope st) s.heap.objs.size f cdv)) → sp vs H Q E →
      ∃ t, PSs (cxOf CX0 P w K mg base N qual (defScope st) f cdv A outer s H E).nox (defBody st) t ∧ t { nx := fun _ H1 => Q .non H1, rt := Q } (start N vs) H) : FnG P w K mg base CX0 (k + 1) f fd ps sp :=
  of_body F S many fun cdv A quiet outer s H vs Q E room want => let ⟨t, d, q⟩ := body cdv A quiet outer s H vs Q E room want; ⟨t, d.nox, q⟩
theorem Mv.of_same {a : Addr} {H H1 : Hp} (h : Pot a H) (s : Same H H1) : Mv a H H1 := by
  refine ⟨same_hidden s, ?_⟩
  obtain ⟨p, q, r, e, z⟩ := h
  exact ⟨p, q, r, s _ _ e, z⟩
theorem wordB_mono {n m : Nat} {z : Str} (h : wordB n z = true) (le : n ≤ m) : wordB m z = true := by
  unfold wordB at h ⊢
  simp only [Bool.and_eq_true, decide_eq_true_eq] at h ⊢
  exact ⟨⟨h.1.1, Nat.le_trans h.1.2 le⟩, h.2⟩
theorem name_word {z : Str} (h : nameB z = true) : wordB 8 z = true := by
  unfold nameB at h
  rw [Bool.and_eq_true] at h
  exact h.1
theorem signs_word {z : Str} (h : signsB z = true) : wordB 4 z = true := by
  unfold signsB at h
  rw [Bool.and_eq_true] at h
  exact h.1
theorem Pk.len {a : Addr} {W n : Nat} {H : Hp} {v : V} (h : Pk K a W n H v) (le : W ≤ 10000000) : ∃ d, Dz K (hid a H) v d ∧ Fit W n d ∧ Len d ∧ wt d ≤ 10000000 :=
  let ⟨d, x, f⟩ := h
  ⟨d, x, f, Len.of (Nat.le_trans f.wt le), Nat.le_trans f.wt le⟩
/-- what is told of two truths -/
def two (b c : Bool) : Str := (PyData.list [.bool b, .bool c]).shown
theorem repr_two {H : Hp} {Q : VK} {p : Addr} {b c : Bool} (h : H p = some (.lst [.bl b, .bl c])) (q : Q (.str (two b c)) H) : rRepr K [.ref p] H Q := by
  refine repr_of (n := 1) (.lst (SqL.of h) (.cons (.bl b) (.cons (.bl c) .nil))) (Fit.lst (W := 5) (k := 2) (fun d hd => ?_) (Nat.le_refl _) (by decide)) (by decide) q
  simp only [List.mem_cons, List.not_mem_nil, or_false] at hd
  rcases hd with rfl | rfl <;> exact Fit.bool (by decide)
/-- all went right -/
def spRight : Sp := fun vs H Q _ => ∃ a, vs = [.ref a] ∧ Pot a H ∧ ∀ H1, Mv a H H1 → Q (.bl true) H1
abbrev s_law_texts_right : Stmt := topS 34
theorem sc_law_texts_right : FnScope ["pot", "turn", "value", "again", "due"] ["pot"] (defScope s_law_texts_right) := ⟨rfl, rfl, rfl, by decide +kernel, rfl, by decide +kernel, by decide +kernel⟩
theorem ok_texts_right {f fodd fdip fch fnm fsh fsg fln fls fll fn fs fl : Addr} {fd fdodd fddip fdch fdnm fdsh fdsg fdln fdls fdll fdn fds fdl : FuncData} (T : Txt2 mg) (N8 : Num mg "MAX_NAME" 8) (N4 : Num mg "MAX_SIGNS" 4) (D : Def K mg "_law_texts_right" s_law_texts_right ["pot"] f fd)
    (D_law_odd_text : Def K mg "_law_odd_text" s_law_odd_text ["pot", "word"] fodd fdodd) (D_law_dip : Def K mg "_law_dip" s_law_dip ["pot", "total"] fdip fddip) (D_law_choose : Def K mg "_law_choose" s_law_choose ["pot", "items"] fch fdch) (D_law_name : Def K mg "_law_name" s_law_name ["pot"] fnm fdnm)
    (D_law_shuffled : Def K mg "_law_shuffled" s_law_shuffled ["pot", "items"] fsh fdsh) (D_law_signs : Def K mg "_law_signs" s_law_signs ["pot"] fsg fdsg)
    (D_law_is_name : Def K mg "_law_is_name" s_law_is_name ["value"] fln fdln) (D_law_is_signs : Def K mg "_law_is_signs" s_law_is_signs ["value"] fls fdls) (D_law_is_letters : Def K mg "_law_is_letters" s_law_is_letters ["value", "least", "most"] fll fdll)
    (Dis_name : Def K mg "is_name" sis_name ["value"] fn fdn) (Dis_signs : Def K mg "is_signs" sis_signs ["value"] fs fds) (Dare_letters : Def K mg "are_letters" sare_letters ["text"] fl fdl) : FnG P w K mg base CX0 4 f fd ["pot"] spRight := by
  have G_law_odd_text : FnOk P w K mg base CX0 3 fodd fdodd ["pot", "word"] (spOdd K) := ok_odd_text T D_law_odd_text D_law_dip D_law_choose
  have G_law_name : FnOk P w K mg base CX0 3 fnm fdnm ["pot"] spName := ok_name T.toTxt D_law_name D_law_dip D_law_choose
  have G_law_signs : FnOk P w K mg base CX0 3 fsg fdsg ["pot"] spSigns := ok_signs T.toTxt D_law_signs D_law_dip D_law_choose D_law_shuffled
  have G_law_is_name : FnOk P w K mg base CX0 2 fln fdln ["value"] (spJudge K nmD) := ok_law_is_name T D_law_is_name D_law_is_letters
  have G_law_is_signs : FnOk P w K mg base CX0 2 fls fdls ["value"] (spJudge K sgD) := ok_law_is_signs T D_law_is_signs D_law_is_letters
  have Gis_name : FnOk P w K mg base CX0 2 fn fdn ["value"] (spJudge K nmD) := ok_is_name T N8 Dis_name Dare_letters
  have Gis_signs : FnOk P w K mg base CX0 2 fs fds ["value"] (spJudge K sgD) := ok_is_signs T N4 Dis_signs Dare_letters
  refine of_calm D.F sc_law_texts_right (fun vs H Q E h => ?_) (fun cdv A quiet outer s H vs Q E hr h => ?_)
  · obtain ⟨a, rfl, _⟩ := h
    rfl
  · obtain ⟨a, rfl, pot, k⟩ := h
    have hu := (hr.units)
    have hq : Quiet (A.deeper (envOfC "_law_texts_right" (defScope s_law_texts_right) s.heap.objs.size f cdv)) := quiet
    refine ⟨_, (pss_cons (ps_for PassesOwn.never rfl (pi_range1 (by rfl) T.range (pa_cons pe_int pa_nil)) (pg_name (i := 1) sc_law_texts_right.nd rfl (by first | exact Or.inl rfl | exact Or.inr rfl))
  (pss_one (ps_for PassesOwn.never rfl (pi_tup (pe_tup (pa_cons (pe_call G_law_odd_text (hr.mono (by decide)) (by rfl) D_law_odd_text.g D_law_odd_text.F.kp D_law_odd_text.b .nil pass0 (pa_cons (pv 0) (pa_cons (pe_call G_law_name (hr.mono (by decide)) (by rfl) D_law_name.g D_law_name.F.kp D_law_name.b .nil pass0 (pa_cons (pv 0) pa_nil)) pa_nil))) (pa_cons (pe_call G_law_odd_text (hr.mono (by decide)) (by rfl) D_law_odd_text.g D_law_odd_text.F.kp D_law_odd_text.b .nil pass0 (pa_cons (pv 0) (pa_cons (pe_call G_law_signs (hr.mono (by decide)) (by rfl) D_law_signs.g D_law_signs.F.kp D_law_signs.b .nil pass0 (pa_cons (pv 0) pa_nil)) pa_nil))) pa_nil)))) (pg_name (i := 2) sc_law_texts_right.nd rfl (by first | exact Or.inl rfl | exact Or.inr rfl))
  (pss_one (ps_for PassesOwn.never rfl (pi_range1 (by rfl) T.range (pa_cons pe_int pa_nil)) (pg_name (i := 3) sc_law_texts_right.nd rfl (by first | exact Or.inl rfl | exact Or.inr rfl))
  (pss_cons (ps_set (i := 4) sc_law_texts_right.nd rfl (by first | exact Or.inl rfl | exact Or.inr rfl) (pe_lst (pa_cons (pe_call G_law_is_name (hr.mono (by decide)) (by rfl) D_law_is_name.g D_law_is_name.F.kp D_law_is_name.b .nil pass0 (pa_cons (pv 2) pa_nil)) (pa_cons (pe_call G_law_is_signs (hr.mono (by decide)) (by rfl) D_law_is_signs.g D_law_is_signs.F.kp D_law_is_signs.b .nil pass0 (pa_cons (pv 2) pa_nil)) pa_nil))))
 (pss_one (ps_if (pt_cmpR (Z.k_ne (K := K) hu) (pe_callB (Z.k_repr (K := K) hq hr) (by rfl) T.repr (by decide +kernel) (pa_cons (pe_lst (pa_cons (pe_call Gis_name (hr.mono (by decide)) (by rfl) Dis_name.g Dis_name.F.kp Dis_name.b .nil pass0 (pa_cons (pv 2) pa_nil)) (pa_cons (pe_call Gis_signs (hr.mono (by decide)) (by rfl) Dis_signs.g Dis_signs.F.kp Dis_signs.b .nil pass0 (pa_cons (pv 2) pa_nil)) pa_nil))) pa_nil)) (pe_callB (Z.k_repr (K := K) hq hr) (by rfl) T.repr (by decide +kernel) (pa_cons (pv 4) pa_nil)) (nomark _))
  (pss_one (ps_ret pe_bl))
  pss_nil))))))))
 (pss_one (ps_ret pe_bl))), ?_⟩
    walk_at "st"
    refine ⟨by decide, by decide, loop walkR (fun i σ2 H2 => (∃ x y z u, σ2 = [some (.ref a), x, y, z, u]) ∧ Mv a H H2) ⟨⟨_, _, _, _, rfl⟩, Mv.refl pot⟩ (fun _ _ _ _ => trivial) ?_ ?_⟩
    · rintro i x σ2 H2 hi rfl ⟨⟨x0, y0, z0, u0, rfl⟩, m⟩
      walk_at "st"
      refine ⟨a, rfl, m.pot, fun H3 z1 m3 hz1 => ?_⟩
      walk_at "st"
      refine ⟨a, z1, rfl, m3.pot, name_word hz1, fun H4 v1 m4 pk1 => ?_⟩
      walk_at "st"
      refine ⟨a, rfl, m4.pot, fun H5 z2 m5 hz2 => ?_⟩
      walk_at "st"
      refine ⟨a, z2, rfl, m5.pot, wordB_mono (signs_word hz2) (by decide), fun H6 v2 m6 pk2 => ?_⟩
      walk_at "st"
      refine ⟨by show 2 ≤ sizeLine; decide, fun p np => ?_⟩
      have mm := (((m.trans m3).trans m4).trans m5).trans m6
      generalize e7 : upd H6 p _ = H7
      have n7 : Mv a H6 H7 := by rw [← e7]; exact (Mv.refl m6.pot).new np
      have h7 : H7 p = some (.tup [v1, v2]) := by rw [← e7]; exact upd_same
      have pa : p ≠ a := Mv.ne pot mm np
      walk_at "st"
      refine ⟨⟨_, SqT.of h7⟩, loop (walkT (xs := [v1, v2])) (fun j σ3 H8 => (∃ x y z u, σ3 = [some (.ref a), x, y, z, u]) ∧ Mv a H H8 ∧ H8 p = some (.tup [v1, v2]) ∧ Pk K a 100000 1 H8 v1 ∧ Pk K a 100000 1 H8 v2) ⟨⟨_, _, _, _, rfl⟩, mm.trans n7, h7, pk1.mv ((m5.trans m6).trans n7), pk2.mv n7⟩ (fun j σ3 H8 h => SqT.of h.2.2.1) ?_ ?_⟩
      · rintro j v σ3 H8 hj hv ⟨⟨x1, y1, w1, u1, rfl⟩, m8, h8, q1, q2⟩
        have qv : Pk K a 100000 1 H8 v := by
          have := List.mem_of_getElem? hv
          simp only [List.mem_cons, List.not_mem_nil, or_false] at this
          rcases this with rfl | rfl
          · exact q1
          · exact q2
        walk_at "st"
        refine ⟨by decide, by decide, loop walkR (fun l σ4 H9 => (∃ x z u, σ4 = [some (.ref a), x, some v, z, u]) ∧ Mv a H H9 ∧ H9 p = some (.tup [v1, v2]) ∧ Pk K a 100000 1 H9 v1 ∧ Pk K a 100000 1 H9 v2 ∧ Pk K a 100000 1 H9 v) ⟨⟨_, _, _, rfl⟩, m8, h8, q1, q2, qv⟩ (fun _ _ _ _ => trivial) ?_ ?_⟩
        · rintro l x σ4 H9 hl rfl ⟨⟨x2, z2, u2, rfl⟩, m9, h9, r1, r2, rv⟩
          obtain ⟨d, dz, ft, ln, _⟩ := rv.len (by decide)
          have dz9 := dz.un
          walk_at "st"
          refine ⟨v, d, rfl, dz9, ln, fun Ha sa => ?_⟩
          walk_at "st"
          refine ⟨v, d, rfl, Dz.same sa _ _ dz9, ln, fun Hb sb => ?_⟩
          walk_at "st"
          refine ⟨by show 2 ≤ sizeLine; decide, fun p1 np1 => ?_⟩
          generalize e10 : upd Hb p1 _ = Hc
          have sc : Same H9 Hc := by rw [← e10]; exact same_new (sa.trans sb) np1
          have h1 : Hc p1 = some (.lst [.bl (nmD d), .bl (sgD d)]) := by rw [← e10]; exact upd_same
          walk_at "st"
          refine ⟨v, d, rfl, Dz.same sc _ _ dz9, ln, fun Hd sd => ?_⟩
          walk_at "st"
          refine ⟨v, d, rfl, Dz.same (sc.trans sd) _ _ dz9, ln, fun He se => ?_⟩
          walk_at "st"
          refine ⟨by show 2 ≤ sizeLine; decide, fun p2 np2 => ?_⟩
          generalize e11 : upd He p2 _ = Hf
          have sf : Same Hc Hf := by rw [← e11]; exact same_new (sd.trans se) np2
          have h2 : Hf p2 = some (.lst [.bl (nmD d), .bl (sgD d)]) := by rw [← e11]; exact upd_same
          walk_at "st"
          refine repr_two h2 ?_
          walk_at "st"
          refine repr_two (sf _ _ h1) ?_
          walk_at "st"
          rw [decide_eq_true (rfl : two (nmD d) (sgD d) = two (nmD d) (sgD d))]
          refine iteF ?_
          walk_at "st"
          have mn := Mv.of_same m9.pot (sc.trans sf)
          exact ⟨⟨_, _, _, rfl⟩, m9.trans mn, (sc.trans sf) _ _ h9, r1.mv mn, r2.mv mn, rv.mv mn⟩
        · rintro σ4 H9 ⟨⟨x2, z2, u2, rfl⟩, m9, h9, r1, r2, rv⟩
          walk_at "st"
          exact ⟨⟨_, _, _, _, rfl⟩, m9, h9, r1, r2⟩
      · rintro σ3 H8 ⟨⟨x1, y1, w1, u1, rfl⟩, m8, h8, q1, q2⟩
        walk_at "st"
        exact ⟨⟨_, _, _, _, rfl⟩, m8⟩
    · rintro σ2 H2 ⟨_, m⟩
      walk_at "st"
      exact k H2 m
end
end Z
namespace Z
open PySem PySem.Spec PyProof.Rows L2 G
section
variable {P : Program} {w : World} {K : PySem.W.Frag} {mg : Str → Option Value} {base : Heap}
theorem k_gl {X : Cx} {es : List Expr} {k : Nat} {t : TGs} {n : Nat} {pos : Pos} (hc : X.calm = true) (g : PGs X es t) (h : X.K = K := by rfl)
    (hn : (assignEach es X.env).length = n := by rfl) (hst : (assignEach es X.env).findIdx? (·.1) = none := by rfl) : PG X (.Tuple es k pos) (gLst K n t) := by
  subst h
  exact pg_lst hc g hn hst
/-- the drawn pairs of a kind -/
theorem prv_of {a : Addr} {H : Hp} : ∀ {xs : List V} {ps : List (Str × Str)}, DzAll K (hid a H) xs (ps.map prD) → (∀ p ∈ ps, nameB p.1 = true ∧ signsB p.2 = true) → ∀ v ∈ xs, PrV K a H v
  | [], [], _, _ => fun v hv => nomatch hv
  | x :: xs, p :: ps, h, g => by
    cases h with
    | cons b c =>
      intro v hv
      rcases List.mem_cons.mp hv with hv | hv
      · rw [hv]
        obtain ⟨b1, b2⟩ := g p List.mem_cons_self
        cases b with
        | tup s d =>
          cases d with
          | cons d1 d =>
            cases d with
            | cons d2 d =>
              cases d
              cases d1
              cases d2
              exact ⟨_, _, _, rfl, s, b1, b2⟩
      · exact prv_of c (fun q hq => g q (List.mem_cons_of_mem _ hq)) v hv
/-- an expression with a test, whichever way -/
theorem either {t : TT} {ta tb : TE} {σ : L2.St} {H : Hp} {Q : VK} {M : Hp → Prop} {R : V → Hp → Prop} (q : ∀ S : Bool → Hp → Prop, (∀ b H1, M H1 → S b H1) → t σ H S) (yes : ∀ (Q2 : VK), (∀ v H2, R v H2 → Q2 v H2) → ∀ H1, M H1 → ta σ H1 Q2) (no : ∀ (Q2 : VK), (∀ v H2, R v H2 → Q2 v H2) → ∀ H1, M H1 → tb σ H1 Q2) (post : ∀ v H2, R v H2 → Q v H2) : tIf t ta tb σ H Q := by
  refine q _ fun b H1 m => ?_
  cases b with
  | true => exact iteT (yes Q post H1 m)
  | false => exact iteF (no Q post H1 m)
theorem s_prop {C : Addr} {sp : Sp} {E : XK} {ta : TE} {σ : L2.St} {H : Hp} {Q : VK} (q : ta σ H fun x H1 => ∃ a dx fs, x = .ref a ∧ H1 a = some (.ins C dx fs) ∧ sp [.ref a] H1 Q E) : tProp C sp [] E ta σ H Q := q
theorem s_glst {n : Nat} {t : TGs} {v : V} {σ : L2.St} {H : Hp} {Q : L2.St → Hp → Prop} (q : ∃ a xs, v = .ref a ∧ SqL K H a xs ∧ xs.length = n ∧ t xs σ H Q) : gLst K n t v σ H Q := q
abbrev sStreams_sources : Stmt := inClass (topS 17) 1
theorem scStreams_sources : FnScope ["self"] ["self"] (defScope sStreams_sources) := ⟨rfl, rfl, rfl, by decide +kernel, rfl, by decide +kernel, by decide +kernel⟩
abbrev sStreams_sinks : Stmt := inClass (topS 17) 2
theorem scStreams_sinks : FnScope ["self"] ["self"] (defScope sStreams_sinks) := ⟨rfl, rfl, rfl, by decide +kernel, rfl, by decide +kernel, by decide +kernel⟩
theorem ok_get {f C : Addr} {fd : FuncData} (SC : StrmC K C) (F : Fun K "sources" "Streams.sources" sStreams_sources f fd) : FnOk P w K mg base CX0 1 f fd ["self"] (getSp C "_sources") := by
  refine F.ok scStreams_sources (fun vs H Q E h => ?_) (fun cdv A outer s H vs Q E hr h => ?_)
  · obtain ⟨a, dx, fs, v, rfl, _⟩ := h
    rfl
  · obtain ⟨a, dx, fs, v, rfl, ea, l, q⟩ := h
    exact ⟨_, (pss_one (ps_ret (pe_fld (pv 0) rfl))), ⟨.ref a, rfl, a, C, dx, fs, v, rfl, ea, SC.cl, SC.n1, l, q⟩⟩
theorem ok_get2 {f C : Addr} {fd : FuncData} (SC : StrmC K C) (F : Fun K "sinks" "Streams.sinks" sStreams_sinks f fd) : FnOk P w K mg base CX0 1 f fd ["self"] (getSp C "_sinks") := by
  refine F.ok scStreams_sinks (fun vs H Q E h => ?_) (fun cdv A outer s H vs Q E hr h => ?_)
  · obtain ⟨a, dx, fs, v, rfl, _⟩ := h
    rfl
  · obtain ⟨a, dx, fs, v, rfl, ea, l, q⟩ := h
    exact ⟨_, (pss_one (ps_ret (pe_fld (pv 0) rfl))), ⟨.ref a, rfl, a, C, dx, fs, v, rfl, ea, SC.cl, SC.n2, l, q⟩⟩
theorem lk_here {k : Str} {v : V} {r : List (Str × V)} : List.lookup k ((k, v) :: r) = some v := by
  have e : (k == k) = true := beq_self_eq_true k
  simp only [List.lookup, e]
theorem lk_past {k g : Str} {v : V} {r : List (Str × V)} (h : (k == g) = false) : List.lookup k ((g, v) :: r) = List.lookup k r := by
  simp only [List.lookup, h]
theorem sF_1 (v u n m : V) : (sF v u n m).lookup ("_sources" : Str) = some v := lk_here
theorem sF_2 (v u n m : V) : (sF v u n m).lookup ("_sinks" : Str) = some u := (lk_past (by decide +kernel)).trans lk_here
/-- what is told of two things -/
def tell (d e : PyData) : Str := (PyData.list [d, e]).shown
theorem repr_tell {H : Hp} {Q : VK} {p : Addr} {v u : V} {d e : PyData} (h : H p = some (.lst [v, u])) (dz : Dz K H v d) (dy : Dz K H u e) (f : Fit 2000000 3 d) (g : Fit 2000000 3 e) (q : Q (.str (tell d e)) H) : rRepr K [.ref p] H Q := by
  refine repr_of (n := 4) (.lst (SqL.of h) (.cons dz (.cons dy .nil))) (Fit.lst (W := 2000000) (k := 2) (fun x hx => ?_) (Nat.le_refl _) (by decide)) (by decide) q
  simp only [List.mem_cons, List.not_mem_nil, or_false] at hx
  rcases hx with rfl | rfl
  · exact f
  · exact g
theorem kind_parts {n : Nat} {ps : List (Str × Str)} (h1 : n ≤ ps.length) (h3 : ps.length ≤ 3) (g : ∀ p ∈ ps, nameB p.1 = true ∧ signsB p.2 = true) : kindD n (.tuple (ps.map prD)) = true := by
  show (decide (n ≤ (ps.map prD).length) && decide ((ps.map prD).length ≤ 3) && (ps.map prD).all strmD) = true
  rw [List.length_map, decide_eq_true h1, decide_eq_true h3, Bool.true_and, Bool.true_and, List.all_map, List.all_eq_true]
  intro p hp
  obtain ⟨a, b⟩ := g p hp
  show (nameB p.1 && signsB p.2) = true
  rw [a, b]
  rfl
theorem strs_parts {ps qs : List (Str × Str)} (h : Parts 3 ps qs) : strsD (.tuple (ps.map prD)) (.tuple (qs.map prD)) = true := by
  have l1 := h.few
  have l2 := h.few2
  rw [strsD_yes (kind_parts h.one (by omega) fun p hp => ⟨h.name p (List.mem_append_left _ hp), h.sig p (List.mem_append_left _ hp)⟩) (kind_parts (Nat.zero_le _) (by omega) fun p hp => ⟨h.name p (List.mem_append_right _ hp), h.sig p (List.mem_append_right _ hp)⟩)]
  rw [← List.map_append, List.map_map]
  exact decide_eq_true h.nd
theorem fit_parts {ps : List (Str × Str)} (h3 : ps.length ≤ 3) (g : ∀ p ∈ ps, nameB p.1 = true ∧ signsB p.2 = true) : Fit 1000 2 (.tuple (ps.map prD)) := by
  refine Fit.tup (W := 200) (k := 3) (fun d hd => ?_) (by rw [List.length_map]; exact h3) (by decide)
  obtain ⟨p, hp, rfl⟩ := List.mem_map.mp hd
  obtain ⟨n, s⟩ := g p hp
  refine Fit.tup (W := 82) (k := 2) (fun e he => ?_) (Nat.le_refl _) (by decide)
  simp only [List.mem_cons, List.not_mem_nil, or_false] at he
  rcases he with rfl | rfl
  · exact (Sm.of_word (name_w n)).fit
  · exact (Sm.of_word (signs_w s)).fit
abbrev s_law_streams_right : Stmt := topS 37
theorem sc_law_streams_right : FnScope ["pot", "sources", "sinks", "turn", "one", "other", "text", "due", "again", "found"] ["pot"] (defScope s_law_streams_right) := ⟨rfl, rfl, rfl, by decide +kernel, rfl, by decide +kernel, by decide +kernel⟩
section
variable {f fprt fnear fodd fdip fch fnm ffr fns fsh fsg flas flap fln fls fll fmet fI C CF g1 g2 p1 p2 fas fk fst fn fs fl : Addr} {fd fdprt fdnear fdodd fddip fdch fdnm fdfr fdns fdsh fdsg fdlas fdlap fdln fdls fdll fdmet fdI fdg1 fdg2 fdas fdk fdst fdn fds fdl : FuncData}
theorem ok_streams_right (T : Txt2 mg) (N8 : Num mg "MAX_NAME" 8) (N4 : Num mg "MAX_SIGNS" 4) (N3 : Num mg "MAX_KIND" 3) (D : Def K mg "_law_streams_right" s_law_streams_right ["pot"] f fd)
    (D_law_parts : Def K mg "_law_parts" s_law_parts ["pot", "most"] fprt fdprt) (D_law_near : Def K mg "_law_near" s_law_near ["pot", "parts"] fnear fdnear)
    (D_law_odd_text : Def K mg "_law_odd_text" s_law_odd_text ["pot", "word"] fodd fdodd) (D_law_dip : Def K mg "_law_dip" s_law_dip ["pot", "total"] fdip fddip) (D_law_choose : Def K mg "_law_choose" s_law_choose ["pot", "items"] fch fdch) (D_law_name : Def K mg "_law_name" s_law_name ["pot"] fnm fdnm)
    (D_law_free : Def K mg "_law_free" s_law_free ["names"] ffr fdfr) (D_law_names : Def K mg "_law_names" s_law_names ["pot", "many"] fns fdns)
    (D_law_shuffled : Def K mg "_law_shuffled" s_law_shuffled ["pot", "items"] fsh fdsh) (D_law_signs : Def K mg "_law_signs" s_law_signs ["pot"] fsg fdsg)
    (D_law_are_streams : Def K mg "_law_are_streams" s_law_are_streams ["sources", "sinks"] flas fdlas) (D_law_are_parts : Def K mg "_law_are_parts" s_law_are_parts ["value", "least"] flap fdlap)
    (D_law_is_name : Def K mg "_law_is_name" s_law_is_name ["value"] fln fdln) (D_law_is_signs : Def K mg "_law_is_signs" s_law_is_signs ["value"] fls fdls) (D_law_is_letters : Def K mg "_law_is_letters" s_law_is_letters ["value", "least", "most"] fll fdll)
    (D_law_met : Def K mg "_law_met" s_law_met ["sources", "sinks"] fmet fdmet)
    (MStreams : Mk K C fI) (FI : Fun K "__init__" "Streams.__init__" sStreams___init__ fI fdI) (bStreams : Binds K fdI ["self", "sources", "sinks"] []) (gStreams : mg "Streams" = some (.ref C)) (SC : StrmC K C) (XInvalidStreams : Err K mg "InvalidStreams" CF)
    (Psources : PropOf K C "sources" p1 g1) (F1 : Fun K "sources" "Streams.sources" sStreams_sources g1 fdg1) (bsources : Binds K fdg1 ["self"] []) (Psinks : PropOf K C "sinks" p2 g2) (F2 : Fun K "sinks" "Streams.sinks" sStreams_sinks g2 fdg2) (bsinks : Binds K fdg2 ["self"] [])
    (D_are_streams : Def K mg "_are_streams" s_are_streams ["sources", "sinks"] fas fdas) (D_are_kind : Def K mg "_are_kind" s_are_kind ["value", "fewest"] fk fdk) (D_is_stream : Def K mg "_is_stream" s_is_stream ["value"] fst fdst)
    (Dis_name : Def K mg "is_name" sis_name ["value"] fn fdn) (Dis_signs : Def K mg "is_signs" sis_signs ["value"] fs fds) (Dare_letters : Def K mg "are_letters" sare_letters ["text"] fl fdl) : FnG P w K mg base CX0 9 f fd ["pot"] spRight := by
  have G_law_parts : FnOk P w K mg base CX0 5 fprt fdprt ["pot", "most"] (spParts K) := ok_parts T.toTxt D_law_parts D_law_dip D_law_choose D_law_shuffled D_law_name D_law_free D_law_names D_law_signs
  have G_law_near : FnOk P w K mg base CX0 4 fnear fdnear ["pot", "parts"] (spNear K) := ok_near T D_law_near D_law_odd_text D_law_dip D_law_choose D_law_name D_law_shuffled D_law_signs
  have G_law_dip : FnOk P w K mg base CX0 1 fdip fddip ["pot", "total"] spDip := ok_dip T.toTxt D_law_dip
  have G_law_are_streams : FnOk P w K mg base CX0 4 flas fdlas ["sources", "sinks"] (spBoth K) := ok_law_are_streams T D_law_are_streams D_law_are_parts D_law_is_name D_law_is_signs D_law_is_letters
  have G_law_met : FnOk P w K mg base CX0 8 fmet fdmet ["sources", "sinks"] (spMet K C) := ok_met T N8 N4 N3 D_law_met MStreams FI bStreams gStreams SC XInvalidStreams D_are_streams D_are_kind D_is_stream Dis_name Dis_signs Dare_letters
  have Gsources : FnOk P w K mg base CX0 1 g1 fdg1 ["self"] (getSp C "_sources") := ok_get SC F1
  have Gsinks : FnOk P w K mg base CX0 1 g2 fdg2 ["self"] (getSp C "_sinks") := ok_get2 SC F2
  refine of_calm D.F sc_law_streams_right (fun vs H Q E h => ?_) (fun cdv A quiet outer s H vs Q E hr h => ?_)
  · obtain ⟨a, rfl, _⟩ := h
    rfl
  · obtain ⟨a, rfl, pot, k⟩ := h
    have hu := (hr.units)
    have hq : Quiet (A.deeper (envOfC "_law_streams_right" (defScope s_law_streams_right) s.heap.objs.size f cdv)) := quiet
    refine ⟨_, (pss_cons (ps_asg (pe_call G_law_parts (hr.mono (by decide)) (by rfl) D_law_parts.g D_law_parts.F.kp D_law_parts.b .nil pass0 (pa_cons (pv 0) (pa_cons pe_int pa_nil))) (Z.k_gl (K := K) (n := 2) rfl (pgs_cons (pg_name (i := 1) sc_law_streams_right.nd rfl (by first | exact Or.inl rfl | exact Or.inr rfl)) (pgs_cons (pg_name (i := 2) sc_law_streams_right.nd rfl (by first | exact Or.inl rfl | exact Or.inr rfl)) pgs_nil))))
 (pss_cons (ps_for PassesOwn.never rfl (pi_range1 (by rfl) T.range (pa_cons pe_int pa_nil)) (pg_name (i := 3) sc_law_streams_right.nd rfl (by first | exact Or.inl rfl | exact Or.inr rfl))
  (pss_cons (ps_set (i := 4) sc_law_streams_right.nd rfl (by first | exact Or.inl rfl | exact Or.inr rfl) (pe_ifExp (PW.pt (pw_and (pt_cmpR Z.op_gt (pv 3) pe_int (nomark _)) (pw_and1 (pt_cmpR Z.op_gt (pe_call G_law_dip (hr.mono (by decide)) (by rfl) D_law_dip.g D_law_dip.F.kp D_law_dip.b .nil pass0 (pa_cons (pv 0) (pa_cons pe_int pa_nil))) pe_int (nomark _))))) (pe_call G_law_near (hr.mono (by decide)) (by rfl) D_law_near.g D_law_near.F.kp D_law_near.b .nil pass0 (pa_cons (pv 0) (pa_cons (pv 1) pa_nil))) (pv 1)))
 (pss_cons (ps_set (i := 5) sc_law_streams_right.nd rfl (by first | exact Or.inl rfl | exact Or.inr rfl) (pe_ifExp (PW.pt (pw_and (pt_cmpR Z.op_gt (pv 3) pe_int (nomark _)) (pw_and1 (pt_cmpR Z.op_gt (pe_call G_law_dip (hr.mono (by decide)) (by rfl) D_law_dip.g D_law_dip.F.kp D_law_dip.b .nil pass0 (pa_cons (pv 0) (pa_cons pe_int pa_nil))) pe_int (nomark _))))) (pe_call G_law_near (hr.mono (by decide)) (by rfl) D_law_near.g D_law_near.F.kp D_law_near.b .nil pass0 (pa_cons (pv 0) (pa_cons (pv 2) pa_nil))) (pv 2)))
 (pss_cons (ps_par (i := 6) (j := 7) (by rfl) sc_law_streams_right.nd rfl rfl (by decide) rfl rfl (pa_cons (pe_callB (Z.k_repr (K := K) hq hr) (by rfl) T.repr (by decide +kernel) (pa_cons (pe_lst (pa_cons (pv 4) (pa_cons (pv 5) pa_nil))) pa_nil)) (pa_cons (pe_call G_law_are_streams (hr.mono (by decide)) (by rfl) D_law_are_streams.g D_law_are_streams.F.kp D_law_are_streams.b .nil pass0 (pa_cons (pv 4) (pa_cons (pv 5) pa_nil))) pa_nil)) (by rfl))
 (pss_one (ps_for PassesOwn.never rfl (pi_range1 (by rfl) T.range (pa_cons pe_int pa_nil)) (pg_name (i := 8) sc_law_streams_right.nd rfl (by first | exact Or.inl rfl | exact Or.inr rfl))
  (pss_cons (ps_set (i := 9) sc_law_streams_right.nd rfl (by first | exact Or.inl rfl | exact Or.inr rfl) (pe_call G_law_met (hr.mono (by decide)) (by rfl) D_law_met.g D_law_met.F.kp D_law_met.b .nil pass0 (pa_cons (pv 4) (pa_cons (pv 5) pa_nil))))
 (pss_cons (ps_if (PW.pt (pw_or (pt_cmpR (Z.k_ne (K := K) hu) (pe_cmpR Z.op_notN (pv 9) pe_non (nomark _)) (pv 7) (nomark _)) (pw_or1 (pt_cmpR (Z.k_ne (K := K) hu) (pe_callB (Z.k_repr (K := K) hq hr) (by rfl) T.repr (by decide +kernel) (pa_cons (pe_lst (pa_cons (pv 4) (pa_cons (pv 5) pa_nil))) pa_nil)) (pv 6) (nomark _)))))
  (pss_one (ps_ret pe_bl))
  pss_nil)
 (pss_one (ps_if (PW.pt (pw_and (pt_val (pv 7)) (pw_and1 (pt_cmpR (Z.k_ne (K := K) hu) (pe_callB (Z.k_repr (K := K) hq hr) (by rfl) T.repr (by decide +kernel) (pa_cons (pe_lst (pa_cons (pe_prop (pv 9) SC.cl Psources Gsources (hr.mono (by decide)) bsources .nil pass0 rfl) (pa_cons (pe_prop (pv 9) SC.cl Psinks Gsinks (hr.mono (by decide)) bsinks .nil pass0 rfl) pa_nil))) pa_nil)) (pv 6) (nomark _)))))
  (pss_one (ps_ret pe_bl))
  pss_nil))))))))))
 (pss_one (ps_ret (pe_call G_law_are_streams (hr.mono (by decide)) (by rfl) D_law_are_streams.g D_law_are_streams.F.kp D_law_are_streams.b .nil pass0 (pa_cons (pv 1) (pa_cons (pv 2) pa_nil))))))), ?_⟩
    walk_at "st"
    refine ⟨a, 3, rfl, pot, by decide, by decide, fun H1 p t1 t2 ps qs m1 np hp dz1 dz2 parts => ?_⟩
    walk_at "st"
    with_reducible refine s_glst ?_
    refine ⟨p, [.ref t1, .ref t2], rfl, SqL.of hp, rfl, ?_⟩
    walk_at "st"
    obtain ⟨_, xs1, e1, sq1, da1⟩ := dz1.tuple
    obtain ⟨_, xs2, e2, sq2, da2⟩ := dz2.tuple
    cases e1
    cases e2
    have pr1 := prv_of da1 fun q hq => ⟨parts.name q (List.mem_append_left _ hq), parts.sig q (List.mem_append_left _ hq)⟩
    have pr2 := prv_of da2 fun q hq => ⟨parts.name q (List.mem_append_right _ hq), parts.sig q (List.mem_append_right _ hq)⟩
    have len1 : xs1.length ≤ 3 := by
      have := da1.len
      rw [List.length_map] at this
      have := parts.few
      omega
    have len2 : xs2.length ≤ 3 := by
      have := da2.len
      rw [List.length_map] at this
      have := parts.few2
      omega
    have pk1 : Pk K a 2000000 3 H1 (.ref t1) := (Pk.tup (W := 200) (n := 1) (k := 3) (V := 1000) sq1 (fun v hv => (pr1 v hv).pk) len1 (by decide)).mono (by decide) (by decide)
    have pk2 : Pk K a 2000000 3 H1 (.ref t2) := (Pk.tup (W := 200) (n := 1) (k := 3) (V := 1000) sq2 (fun v hv => (pr2 v hv).pk) len2 (by decide)).mono (by decide) (by decide)
    refine ⟨by decide, by decide, loop walkR (fun i σ2 H2 => (∃ x3 x4 x5 x6 x7 x8 x9, σ2 = [some (.ref a), some (.ref t1), some (.ref t2), x3, x4, x5, x6, x7, x8, x9]) ∧ Mv a H1 H2) ⟨⟨_, _, _, _, _, _, _, rfl⟩, Mv.refl m1.pot⟩ (fun _ _ _ _ => trivial) ?_ ?_⟩
    · rintro i x σ2 H2 hi rfl ⟨⟨x3, x4, x5, x6, x7, x8, x9, rfl⟩, m2⟩
      have m02 := m1.trans m2
      repeat (first | with_reducible refine Z.s_name ?_ | with_reducible refine Z.s_seq ?_ | with_reducible refine Z.s_next ?_ | with_reducible refine Z.s_asg ?_)
      with_reducible refine either (M := Mv a H2) (R := fun v H3 => Mv a H2 H3 ∧ Pk K a 2000000 3 H3 v) ?_ ?_ ?_ ?_
      · intro S q
        walk_at "st"
        by_cases c : (0 : Int) < 0 + (i : Int)
        · rw [decide_eq_true c]
          refine iteT ?_
          walk_at "st"
          refine ⟨a, 3, rfl, m2.pot, by decide, by decide, fun H3 r m3 r0 r1 => ?_⟩
          walk_at "st"
          exact q _ H3 m3
        · rw [decide_eq_false c]
          exact iteF (q _ H2 (Mv.refl m2.pot))
      · intro Q2 post H3 m3
        walk_at "st"
        refine ⟨a, t1, xs1, rfl, m3.pot, sqt_mv sq1 (m2.trans m3), len1, fun v hv => (pr1 v hv).mv (m2.trans m3), fun H4 v m4 pk => ?_⟩
        exact post v H4 ⟨m3.trans m4, pk⟩
      · intro Q2 post H3 m3
        walk_at "st"
        exact post _ H3 ⟨m3, pk1.mv (m2.trans m3)⟩
      rintro v1 H3 ⟨m3, pv1⟩
      repeat (first | with_reducible refine Z.s_name ?_ | with_reducible refine Z.s_seq ?_ | with_reducible refine Z.s_next ?_ | with_reducible refine Z.s_asg ?_)
      with_reducible refine either (M := Mv a H3) (R := fun v H4 => Mv a H3 H4 ∧ Pk K a 2000000 3 H4 v) ?_ ?_ ?_ ?_
      · intro S q
        walk_at "st"
        by_cases c : (0 : Int) < 0 + (i : Int)
        · rw [decide_eq_true c]
          refine iteT ?_
          walk_at "st"
          refine ⟨a, 3, rfl, m3.pot, by decide, by decide, fun H4 r m4 r0 r1 => ?_⟩
          walk_at "st"
          exact q _ H4 m4
        · rw [decide_eq_false c]
          exact iteF (q _ H3 (Mv.refl m3.pot))
      · intro Q2 post H4 m4
        walk_at "st"
        refine ⟨a, t2, xs2, rfl, m4.pot, sqt_mv sq2 ((m2.trans m3).trans m4), len2, fun v hv => (pr2 v hv).mv ((m2.trans m3).trans m4), fun H5 v m5 pk => ?_⟩
        exact post v H5 ⟨m4.trans m5, pk⟩
      · intro Q2 post H4 m4
        walk_at "st"
        exact post _ H4 ⟨m4, pk2.mv ((m2.trans m3).trans m4)⟩
      rintro v2 H4 ⟨m4, pv2⟩
      obtain ⟨d, dz, fd1, _, wd⟩ := (pv1.mv m4).len (by decide)
      obtain ⟨e, dy, fe1, _, we⟩ := pv2.len (by decide)
      have m14 := (m2.trans m3).trans m4
      walk_at "st"
      refine ⟨by show 2 ≤ sizeLine; decide, fun q1 nq1 => ?_⟩
      generalize eg : upd H4 q1 _ = H5
      obtain ⟨m5, s5, ne5, h5⟩ := at_newL (K := K) eg nq1 m4.pot
      walk_at "st"
      refine repr_tell h5 (dz.mv m5).un (dy.mv m5).un fd1 fe1 ?_
      walk_at "st"
      refine ⟨v1, v2, d, e, rfl, (dz.mv m5).un, (dy.mv m5).un, wd, we, fun H6 s6 => ?_⟩
      have m6 := Mv.of_same m5.pot s6
      walk_at "st"
      refine ⟨by decide, by decide, loop walkR (fun j σ3 H7 => (∃ x3 x8 x9, σ3 = [some (.ref a), some (.ref t1), some (.ref t2), x3, some v1, some v2, some (.str (tell d e)), some (.bl (strsD d e)), x8, x9]) ∧ Mv a H1 H7 ∧ Dz K (hid a H7) v1 d ∧ Dz K (hid a H7) v2 e) ⟨⟨_, _, _, rfl⟩, (m14.trans m5).trans m6, dz.mv (m5.trans m6), dy.mv (m5.trans m6)⟩ (fun _ _ _ _ => trivial) ?_ ?_⟩
      · rintro j x σ3 H7 hj rfl ⟨⟨x3, x8, x9, rfl⟩, m7, dz7, dy7⟩
        walk_at "st"
        refine ⟨v1, v2, d, e, rfl, dz7.un, dy7.un, wd, we, fun b H8 p8 dx n m s8 h8 => ?_, fun b H8 s8 => ?_⟩
        · have m8 := Mv.of_same m7.pot s8
          walk_at "st"
          rw [b]
          rw [decide_eq_false (show ¬ (V.ref p8 = .non) from fun z => nomatch z), show (!decide ((!false) = true)) = false from rfl]
          refine iteF ?_
          walk_at "st"
          refine ⟨by show 2 ≤ sizeLine; decide, fun q9 nq9 => ?_⟩
          generalize eg9 : upd H8 q9 _ = H9
          obtain ⟨m9, s9, ne9, h9⟩ := at_newL (K := K) eg9 nq9 m8.pot
          have h98 : H9 p8 = some (.ins C dx (sF v1 v2 n m)) := by
            rw [← eg9, upd_ne (ne_of_none h8 nq9)]
            exact h8
          have m89 := m8.trans m9
          walk_at "st"
          refine repr_tell h9 (dz7.mv m89).un (dy7.mv m89).un fd1 fe1 ?_
          walk_at "st"
          rw [decide_eq_true (rfl : tell d e = tell d e)]
          refine iteF ?_
          walk_at "st"
          refine iteT ?_
          walk_at "st"
          with_reducible refine s_prop ?_
          walk_at "st"
          refine ⟨p8, dx, _, rfl, h98, p8, dx, _, v1, rfl, h98, sF_1 v1 v2 n m, ?_⟩
          walk_at "st"
          with_reducible refine s_prop ?_
          walk_at "st"
          refine ⟨p8, dx, _, rfl, h98, p8, dx, _, v2, rfl, h98, sF_2 v1 v2 n m, ?_⟩
          walk_at "st"
          refine ⟨by show 2 ≤ sizeLine; decide, fun q10 nq10 => ?_⟩
          generalize eg10 : upd H9 q10 _ = H10
          obtain ⟨m10, s10, ne10, h10⟩ := at_newL (K := K) eg10 nq10 m9.pot
          have m810 := m89.trans m10
          walk_at "st"
          refine repr_tell h10 (dz7.mv m810).un (dy7.mv m810).un fd1 fe1 ?_
          walk_at "st"
          rw [decide_eq_true (rfl : tell d e = tell d e)]
          refine iteF ?_
          walk_at "st"
          exact ⟨⟨_, _, _, rfl⟩, m7.trans m810, dz7.mv m810, dy7.mv m810⟩
        · have m8 := Mv.of_same m7.pot s8
          walk_at "st"
          rw [b]
          rw [decide_eq_true (rfl : V.non = V.non), show (!decide ((!true) = false)) = false from rfl]
          refine iteF ?_
          walk_at "st"
          refine ⟨by show 2 ≤ sizeLine; decide, fun q9 nq9 => ?_⟩
          generalize eg9 : upd H8 q9 _ = H9
          obtain ⟨m9, s9, ne9, h9⟩ := at_newL (K := K) eg9 nq9 m8.pot
          have m89 := m8.trans m9
          walk_at "st"
          refine repr_tell h9 (dz7.mv m89).un (dy7.mv m89).un fd1 fe1 ?_
          walk_at "st"
          rw [decide_eq_true (rfl : tell d e = tell d e)]
          refine iteF ?_
          walk_at "st"
          refine iteF ?_
          walk_at "st"
          exact ⟨⟨_, _, _, rfl⟩, m7.trans m89, dz7.mv m89, dy7.mv m89⟩
      · rintro σ3 H7 ⟨⟨x3, x8, x9, rfl⟩, m7, _, _⟩
        walk_at "st"
        exact ⟨⟨_, _, _, _, _, _, _, rfl⟩, m7⟩
    · rintro σ2 H2 ⟨⟨x3, x4, x5, x6, x7, x8, x9, rfl⟩, m2⟩
      walk_at "st"
      have w1 := pk1.mv m2
      have lp := parts.few
      have lq := parts.few2
      have f1 : wt (.tuple (ps.map prD)) ≤ 10000000 := Nat.le_trans (fit_parts (by omega) fun q hq => ⟨parts.name q (List.mem_append_left _ hq), parts.sig q (List.mem_append_left _ hq)⟩).wt (by decide)
      have f2 : wt (.tuple (qs.map prD)) ≤ 10000000 := Nat.le_trans (fit_parts (by omega) fun q hq => ⟨parts.name q (List.mem_append_right _ hq), parts.sig q (List.mem_append_right _ hq)⟩).wt (by decide)
      refine ⟨.ref t1, .ref t2, _, _, rfl, (dz1.mv m2).un, (dz2.mv m2).un, f1, f2, fun H3 s3 => ?_⟩
      rw [strs_parts parts]
      exact k H3 ((m1.trans m2).trans (Mv.of_same m2.pot s3))
end
end
end Z
namespace Z
open PySem PySem.Spec PyProof.Rows L2 G
section
variable {P : Program} {w : World} {K : PySem.W.Frag} {mg : Str → Option Value} {base : Heap}
/-- a pot, filled by the script -/
def spFilled (K : PySem.W.Frag) : Sp := fun vs H Q _ => ∃ s, ∃ ns : List Int, ∃ n, vs = [.ref s, .int n] ∧ SqL K H s (ns.map V.int) ∧ 0 ≤ n ∧ n ≤ 100 ∧ ∀ p A B, H p = none → 0 ≤ A → 0 ≤ B → B < 2 ^ 61 → Q (.ref p) (upd H p (.lst [.int A, .int B, .int 0]))
/-- either way an int -/
theorem int_either {t : TT} {ta tb : TE} {σ : L2.St} {H : Hp} {Q : VK} {C : Prop} (q : ∀ S : Bool → Hp → Prop, (∀ b, (b = true → C) → S b H) → t σ H S) (yes : C → ∀ Q2 : VK, (∀ i, Q2 (.int i) H) → ta σ H Q2) (no : ∀ Q2 : VK, (∀ i, Q2 (.int i) H) → tb σ H Q2) (post : ∀ i, Q (.int i) H) : tIf t ta tb σ H Q := by
  refine q _ fun b c => ?_
  cases b with
  | true => exact iteT (yes (c rfl) Q post)
  | false => exact iteF (no Q post)
abbrev s_law_filled : Stmt := topS 19
theorem sc_law_filled : FnScope ["script", "at", "cell", "whole", "mixed"] ["script", "at"] (defScope s_law_filled) := ⟨rfl, rfl, rfl, by decide +kernel, rfl, by decide +kernel, by decide +kernel⟩
theorem ok_filled {f : Addr} {fd : FuncData} (T : Txt2 mg) (D : Def K mg "_law_filled" s_law_filled ["script", "at"] f fd) : FnOk P w K mg base CX0 1 f fd ["script", "at"] (spFilled K) := by
  refine D.F.ok sc_law_filled (fun vs H Q E h => ?_) (fun cdv A outer s H vs Q E hr h => ?_)
  · obtain ⟨s, ns, n, rfl, _⟩ := h
    rfl
  · obtain ⟨s, ns, n, rfl, hs, n0, n1, k⟩ := h
    have hu := hr.units
    refine ⟨_, (pss_cons (ps_set (i := 2) sc_law_filled.nd rfl (by first | exact Or.inl rfl | exact Or.inr rfl) (pe_ifExp (pt_cmpR Z.op_lt (pv 1) (pe_callB (Z.k_len (K := K)) (by rfl) T.len (by decide +kernel) (pa_cons (pv 0) pa_nil)) (nomark _)) (pe_ix (Z.k_item (K := K)) (pv 0) (pv 1) (fun _ _ => rfl)) (pe_op (Z.k_add (K := K)) (pe_op Z.op_mul pe_int (pv 1)) pe_int)))
 (pss_cons (ps_set (i := 3) sc_law_filled.nd rfl (by first | exact Or.inl rfl | exact Or.inr rfl) (pe_op Z.op_mod (pe_callTy Z.call_int (by rfl) T.int (by decide +kernel) (pa_cons (pe_callB Z.call_abs (by rfl) T.abs (by decide +kernel) (pa_cons (pv 2) pa_nil)) pa_nil)) (pe_op Z.op_pow (pe_op Z.op_pow pe_int pe_int) pe_int)))
 (pss_cons (ps_set (i := 4) sc_law_filled.nd rfl (by first | exact Or.inl rfl | exact Or.inr rfl) (pe_op Z.op_mod (pe_callTy Z.call_int (by rfl) T.int (by decide +kernel) (pa_cons (pe_op (Z.k_add (K := K)) (pe_op (Z.k_add (K := K)) (pe_op (Z.k_add (K := K)) (pv 3) (pe_op Z.op_mul pe_int (pv 1))) (pe_op Z.op_mul pe_int (pe_callTy Z.call_int (by rfl) T.int (by decide +kernel) (pa_cons (pe_cmpR Z.op_lt (pv 2) pe_int (nomark _)) pa_nil)))) pe_int) pa_nil)) pe_int))
 (pss_one (ps_ret (pe_lst (pa_cons (pe_callB (Z.call_max rfl) (by rfl) T.max (by decide +kernel) (pa_cons pe_int (pa_cons (pe_op Z.op_sub (pv 3) (pe_op Z.op_pow pe_int pe_int)) pa_nil))) (pa_cons (pv 4) (pa_cons pe_int pa_nil))))))))), ?_⟩
    repeat (first | with_reducible refine Z.s_name ?_ | with_reducible refine Z.s_seq ?_ | with_reducible refine Z.s_next ?_ | with_reducible refine Z.s_asg ?_)
    with_reducible refine int_either (C := n < ((ns.length : Nat) : Int)) ?_ ?_ ?_ ?_
    · intro S q
      walk_at "st"
      refine .inl ⟨_, .inl hs, ?_⟩
      walk_at "st"
      rw [List.length_map]
      exact q _ fun z => of_decide_eq_true z
    · intro lt Q2 post
      walk_at "st"
      have lt2 : n.toNat < (ns.map V.int).length := by
        rw [List.length_map]
        omega
      refine item hs (v := .int (ns[n.toNat]'(by rw [List.length_map] at lt2; exact lt2))) (atI_lt n0 ?_) (post _)
      rw [List.getElem?_map, List.getElem?_eq_getElem (by rw [List.length_map] at lt2; exact lt2)]
      rfl
    · intro Q2 post
      walk_at "st"
      refine a_mulI ⟨.inl (.inl ⟨by decide, by decide⟩), ?_⟩
      walk_at "st"
      exact post _
    intro cell
    walk_at "st"
    refine a_pow ⟨⟨by decide, by decide +kernel⟩, ?_⟩
    walk_at "st"
    refine a_pow ⟨⟨by decide, by decide +kernel⟩, ?_⟩
    have M0 : (0 : Int) < ((10 : Int) ^ (60 : Int).toNat) ^ (10 : Int).toNat := by decide +kernel
    generalize ((10 : Int) ^ (60 : Int).toNat) ^ (10 : Int).toNat = M at M0 ⊢
    refine a_mod ⟨M0, ?_⟩
    generalize (if cell < 0 then -cell else cell) % M = whole
    walk_at "st"
    refine a_mulI ⟨.inl (.inl ⟨by decide, by decide⟩), ?_⟩
    walk_at "st"
    refine a_mulI ⟨.inl (.inl ⟨by decide, by decide⟩), ?_⟩
    walk_at "st"
    refine a_mod ⟨by decide, ?_⟩
    generalize hB : (whole + 6700417 * n + 49979687 * _ + 211) % 2305843009213693921 = B
    have B0 : 0 ≤ B := by rw [← hB]; exact Int.emod_nonneg _ (by decide)
    have B1 : B < 2 ^ 61 := by
      have : B < 2305843009213693921 := by rw [← hB]; exact Int.emod_lt_of_pos _ (by decide)
      have e : (2 : Int) ^ 61 = 2305843009213693952 := by decide
      omega
    walk_at "st"
    refine a_pow ⟨⟨by decide, by decide +kernel⟩, ?_⟩
    walk_at "st"
    generalize hA : (if whole - 10 ^ (18 : Int).toNat > 0 then whole - 10 ^ (18 : Int).toNat else 0) = A2
    have A0 : 0 ≤ A2 := by
      rw [← hA]
      split <;> omega
    refine ⟨by show 3 ≤ sizeLine; decide, fun p np => ?_⟩
    exact k p A2 B np A0 B0 B1
end
end Z
namespace Z
open PySem PySem.Spec PyProof.Rows L2 G
section
variable {P : Program} {w : World} {K : PySem.W.Frag} {mg : Str → Option Value} {base : Heap}
/-- a slice of a tuple -/
theorem cut_tup {p : Addr} {H : Hp} {Q : VK} {xs : List V} {lo hi : Option Int} (h : SqT K H p xs) (q : ∀ r H1, Same H H1 → SqT K H1 r (cutV xs lo hi) → Q (.ref r) H1) : Z.rCut K (.ref p) lo hi H Q := by
  refine .inr ⟨p, xs, rfl, h, ?_, ?_⟩
  · rintro ⟨e1, e2⟩
    refine q p H (Same.refl H) ?_
    have e : cutV xs lo hi = xs := by
      unfold cutV
      rw [e1, e2, Nat.sub_zero, List.drop_zero, List.take_length]
    rw [e]
    exact h
  · intro _ r nr
    exact q r _ (same_new (Same.refl H) nr) (SqT.of upd_same)
/-- a new pot, and what becomes of it: all else stands -/
theorem same_pot {a : Addr} {H H2 H3 H4 : Hp} {A B : Int} (s : Same H H2) (na : H2 a = none) (e : H3 = upd H2 a (.lst [.int A, .int B, .int 0])) (m : Mv a H3 H4) : Same H H4 := by
  intro b o hb
  have hb2 := s b o hb
  have ne : b ≠ a := ne_of_none hb2 na
  refine m.at ne ?_
  rw [e, upd_ne ne]
  exact hb2
/-- names with the sign a -/
abbrev four : List Str := ["p", "q", "r", "s"]
abbrev prA (z : Str) : PyData := .tuple [.str z, .str "a"]
def spLaw (K : PySem.W.Frag) : Sp := fun vs H Q _ => ∃ s, ∃ ns : List Int, vs = [.ref s] ∧ SqL K H s (ns.map V.int) ∧ ∀ H1, Q (.bl true) H1
theorem met_yes {C : Addr} {H : Hp} {Q : VK} {E : XK} {v u : V} {d e : PyData} (dz : Dz K H v d) (dy : Dz K H u e) (ld : wt d ≤ 10000000) (le : wt e ≤ 10000000) (b : strsD d e = true) (q : ∀ H1 p, Same H H1 → Q (.ref p) H1) : spMet K C [v, u] H Q E :=
  ⟨v, u, d, e, rfl, dz, dy, ld, le, fun _ H1 p _ _ _ s _ => q H1 p s, fun z => by rw [b] at z; cases z⟩
theorem met_no {C : Addr} {H : Hp} {Q : VK} {E : XK} {v u : V} {d e : PyData} (dz : Dz K H v d) (dy : Dz K H u e) (ld : wt d ≤ 10000000) (le : wt e ≤ 10000000) (b : strsD d e = false) (q : ∀ H1, Same H H1 → Q .non H1) : spMet K C [v, u] H Q E :=
  ⟨v, u, d, e, rfl, dz, dy, ld, le, (fun z => by rw [b] at z; cases z), fun _ => q⟩
theorem dz_take {H : Hp} {r : Addr} {xs : List V} {ds : List PyData} {n : Nat} (h : SqT K H r (cutV xs none (some (n : Nat)))) (g : DzAll K H xs ds) : Dz K H (.ref r) (.tuple (ds.take n)) := by
  rw [cut_take _ (Int.natCast_nonneg n), Int.toNat_natCast] at h
  exact .tup h (g.take n)
theorem dp_bools {H : Hp} : ∀ bs : List Bool, DpAll K H (bs.map V.bl) (bs.map PyData.bool)
  | [] => .nil
  | b :: bs => .cons (.bl b) (dp_bools bs)
abbrev slaw : Stmt := topS 38
theorem sclaw : FnScope ["script", "at", "pot", "four", "told", "name", "one"] ["script"] (defScope slaw) := ⟨rfl, rfl, rfl, by decide +kernel, rfl, by decide +kernel, by decide +kernel⟩
section
variable {f ffl ftr fsr fprt fnear fodd fdip fch fnm ffr fns fsh fsg flas flap fln fls fll fmet fI C CF g1 g2 p1 p2 fas fk fst fn fs fl : Addr} {fd fdfl fdtr fdsr fdprt fdnear fdodd fddip fdch fdnm fdfr fdns fdsh fdsg fdlas fdlap fdln fdls fdll fdmet fdI fdg1 fdg2 fdas fdk fdst fdn fds fdl : FuncData}
theorem ok_law (T : Txt2 mg) (N8 : Num mg "MAX_NAME" 8) (N4 : Num mg "MAX_SIGNS" 4) (N3 : Num mg "MAX_KIND" 3) (N200 : Num mg "MAX_WORD" 200) (D : Def K mg "law" slaw ["script"] f fd) (D_law_filled : Def K mg "_law_filled" s_law_filled ["script", "at"] ffl fdfl)
    (D_law_texts_right : Def K mg "_law_texts_right" s_law_texts_right ["pot"] ftr fdtr) (D_law_streams_right : Def K mg "_law_streams_right" s_law_streams_right ["pot"] fsr fdsr)
    (D_law_parts : Def K mg "_law_parts" s_law_parts ["pot", "most"] fprt fdprt) (D_law_near : Def K mg "_law_near" s_law_near ["pot", "parts"] fnear fdnear)
    (D_law_odd_text : Def K mg "_law_odd_text" s_law_odd_text ["pot", "word"] fodd fdodd) (D_law_dip : Def K mg "_law_dip" s_law_dip ["pot", "total"] fdip fddip) (D_law_choose : Def K mg "_law_choose" s_law_choose ["pot", "items"] fch fdch) (D_law_name : Def K mg "_law_name" s_law_name ["pot"] fnm fdnm)
    (D_law_free : Def K mg "_law_free" s_law_free ["names"] ffr fdfr) (D_law_names : Def K mg "_law_names" s_law_names ["pot", "many"] fns fdns)
    (D_law_shuffled : Def K mg "_law_shuffled" s_law_shuffled ["pot", "items"] fsh fdsh) (D_law_signs : Def K mg "_law_signs" s_law_signs ["pot"] fsg fdsg)
    (D_law_are_streams : Def K mg "_law_are_streams" s_law_are_streams ["sources", "sinks"] flas fdlas) (D_law_are_parts : Def K mg "_law_are_parts" s_law_are_parts ["value", "least"] flap fdlap)
    (D_law_is_name : Def K mg "_law_is_name" s_law_is_name ["value"] fln fdln) (D_law_is_signs : Def K mg "_law_is_signs" s_law_is_signs ["value"] fls fdls) (D_law_is_letters : Def K mg "_law_is_letters" s_law_is_letters ["value", "least", "most"] fll fdll)
    (D_law_met : Def K mg "_law_met" s_law_met ["sources", "sinks"] fmet fdmet)
    (MStreams : Mk K C fI) (FI : Fun K "__init__" "Streams.__init__" sStreams___init__ fI fdI) (bStreams : Binds K fdI ["self", "sources", "sinks"] []) (gStreams : mg "Streams" = some (.ref C)) (SC : StrmC K C) (XInvalidStreams : Err K mg "InvalidStreams" CF)
    (Psources : PropOf K C "sources" p1 g1) (F1 : Fun K "sources" "Streams.sources" sStreams_sources g1 fdg1) (bsources : Binds K fdg1 ["self"] []) (Psinks : PropOf K C "sinks" p2 g2) (F2 : Fun K "sinks" "Streams.sinks" sStreams_sinks g2 fdg2) (bsinks : Binds K fdg2 ["self"] [])
    (D_are_streams : Def K mg "_are_streams" s_are_streams ["sources", "sinks"] fas fdas) (D_are_kind : Def K mg "_are_kind" s_are_kind ["value", "fewest"] fk fdk) (D_is_stream : Def K mg "_is_stream" s_is_stream ["value"] fst fdst)
    (Dis_name : Def K mg "is_name" sis_name ["value"] fn fdn) (Dis_signs : Def K mg "is_signs" sis_signs ["value"] fs fds) (Dare_letters : Def K mg "are_letters" sare_letters ["text"] fl fdl) : FnG P w K mg base CX0 10 f fd ["script"] (spLaw K) := by
  have G_law_filled : FnOk P w K mg base CX0 1 ffl fdfl ["script", "at"] (spFilled K) := ok_filled T D_law_filled
  have G_law_texts_right : FnG P w K mg base CX0 4 ftr fdtr ["pot"] spRight := ok_texts_right T N8 N4 D_law_texts_right D_law_odd_text D_law_dip D_law_choose D_law_name D_law_shuffled D_law_signs D_law_is_name D_law_is_signs D_law_is_letters Dis_name Dis_signs Dare_letters
  have G_law_streams_right : FnG P w K mg base CX0 9 fsr fdsr ["pot"] spRight := ok_streams_right T N8 N4 N3 D_law_streams_right D_law_parts D_law_near D_law_odd_text D_law_dip D_law_choose D_law_name D_law_free D_law_names D_law_shuffled D_law_signs D_law_are_streams D_law_are_parts D_law_is_name D_law_is_signs D_law_is_letters D_law_met MStreams FI bStreams gStreams SC XInvalidStreams Psources F1 bsources Psinks F2 bsinks D_are_streams D_are_kind D_is_stream Dis_name Dis_signs Dare_letters
  have G_law_met : FnOk P w K mg base CX0 8 fmet fdmet ["sources", "sinks"] (spMet K C) := ok_met T N8 N4 N3 D_law_met MStreams FI bStreams gStreams SC XInvalidStreams D_are_streams D_are_kind D_is_stream Dis_name Dis_signs Dare_letters
  refine of_calm D.F sclaw (fun vs H Q E h => ?_) (fun cdv A quiet outer s H vs Q E hr h => ?_)
  · obtain ⟨p, ns, rfl, _⟩ := h
    rfl
  · obtain ⟨p, ns, rfl, hp, k⟩ := h
    have hu := (hr.units)
    have hq : Quiet (A.deeper (envOfC "law" (defScope slaw) s.heap.objs.size f cdv)) := quiet
    obtain ⟨t200, c_MAX_WORD⟩ := N200
    refine ⟨_, (pss_cons (ps_for PassesOwn.never rfl (pi_range1 (by rfl) T.range (pa_cons (pe_callB (Z.call_max rfl) (by rfl) T.max (by decide +kernel) (pa_cons pe_int (pa_cons (pe_callB (Z.call_min rfl) (by rfl) T.min (by decide +kernel) (pa_cons pe_int (pa_cons (pe_callB (Z.k_len (K := K)) (by rfl) T.len (by decide +kernel) (pa_cons (pv 0) pa_nil)) pa_nil))) pa_nil))) pa_nil)) (pg_name (i := 1) sclaw.nd rfl (by first | exact Or.inl rfl | exact Or.inr rfl))
  (pss_cons (ps_set (i := 2) sclaw.nd rfl (by first | exact Or.inl rfl | exact Or.inr rfl) (pe_call G_law_filled (hr.mono (by decide)) (by rfl) D_law_filled.g D_law_filled.F.kp D_law_filled.b .nil pass0 (pa_cons (pv 0) (pa_cons (pv 1) pa_nil))))
 (pss_one (ps_if (PW.pt (pw_or (pt_not (pt_val (G.pe_callG G_law_texts_right hq (hr.mono (by decide)) (by rfl) D_law_texts_right.g D_law_texts_right.F.kp D_law_texts_right.b pass0 (pa_cons (pv 2) pa_nil)))) (pw_or1 (pt_not (pt_val (G.pe_callG G_law_streams_right hq (hr.mono (by decide)) (by rfl) D_law_streams_right.g D_law_streams_right.F.kp D_law_streams_right.b pass0 (pa_cons (pv 2) pa_nil)))))))
  (pss_one (ps_ret pe_bl))
  pss_nil))))
 (pss_cons (ps_set (i := 3) sclaw.nd rfl (by first | exact Or.inl rfl | exact Or.inr rfl) (pe_callTy (Z.k_tuple (K := K)) (by rfl) T.tuple (by decide +kernel) (pa_cons (pe_lc (own := [("name", 5)]) (by rfl) sclaw.nd (pi_tup (pe_tup (pa_cons pe_str (pa_cons pe_str (pa_cons pe_str (pa_cons pe_str pa_nil)))))) (blkOk_by (own := [("name", 5)]) (N := ["script", "at", "pot", "four", "told", "name", "one"]) (sc := defScope slaw) (by decide +kernel))
   (fun _ _ _ _ _ => (pg_name (i := 5) sclaw.nd rfl (by first | exact Or.inl rfl | exact Or.inr rfl))) (fun _ _ _ _ _ => pts_nil) (fun _ _ _ _ _ => (pe_tup (pa_cons (pv 5) (pa_cons pe_str pa_nil))))) pa_nil)))
 (pss_cons (ps_set (i := 4) sclaw.nd rfl (by first | exact Or.inl rfl | exact Or.inr rfl) (pe_lst (pa_cons (pe_call G_law_met (hr.mono (by decide)) (by rfl) D_law_met.g D_law_met.F.kp D_law_met.b .nil pass0 (pa_cons (pe_slice (Z.k_cut (K := K)) (pv 3) po_none (po_some pe_int)) (pa_cons (pe_slice (Z.k_cut (K := K)) (pv 3) po_none (po_some pe_int)) pa_nil))) (pa_cons (pe_call G_law_met (hr.mono (by decide)) (by rfl) D_law_met.g D_law_met.F.kp D_law_met.b .nil pass0 (pa_cons (pe_slice (Z.k_cut (K := K)) (pv 3) po_none (po_some pe_int)) (pa_cons (pe_tup (pa_cons (pe_tup (pa_cons pe_str (pa_cons pe_str pa_nil))) (pa_cons (pe_tup (pa_cons pe_str (pa_cons pe_str pa_nil))) (pa_cons (pe_tup (pa_cons pe_str (pa_cons pe_str pa_nil))) pa_nil)))) pa_nil))) (pa_cons (pe_call G_law_met (hr.mono (by decide)) (by rfl) D_law_met.g D_law_met.F.kp D_law_met.b .nil pass0 (pa_cons (pv 3) (pa_cons (pe_tup pa_nil) pa_nil))) pa_nil)))))
 (pss_cons (ps_set (i := 4) sclaw.nd rfl (by first | exact Or.inl rfl | exact Or.inr rfl) (pe_op (Z.k_add (K := K)) (pv 4) (pe_lst (pa_cons (pe_call G_law_met (hr.mono (by decide)) (by rfl) D_law_met.g D_law_met.F.kp D_law_met.b .nil pass0 (pa_cons (pe_slice (Z.k_cut (K := K)) (pv 3) po_none (po_some pe_int)) (pa_cons (pe_slice (Z.k_cut (K := K)) (pv 3) po_none (po_some pe_int)) pa_nil))) (pa_cons (pe_call G_law_met (hr.mono (by decide)) (by rfl) D_law_met.g D_law_met.F.kp D_law_met.b .nil pass0 (pa_cons (pe_slice (Z.k_cut (K := K)) (pv 3) po_none (po_some pe_int)) (pa_cons (pv 3) pa_nil))) (pa_cons (pe_call G_law_met (hr.mono (by decide)) (by rfl) D_law_met.g D_law_met.F.kp D_law_met.b .nil pass0 (pa_cons (pe_tup pa_nil) (pa_cons (pe_slice (Z.k_cut (K := K)) (pv 3) po_none (po_some pe_int)) pa_nil))) pa_nil))))))
 (pss_cons (ps_expr (Z.k_bm (K := K) PySem.F.plainAttrs_list PySem.F.slot_list_append PySem.F.type_list_append mt_append (pv 4) (pa_cons (pe_call G_law_met (hr.mono (by decide)) (by rfl) D_law_met.g D_law_met.F.kp D_law_met.b .nil pass0 (pa_cons (pe_slice (Z.k_cut (K := K)) (pv 3) po_none (po_some pe_int)) (pa_cons pe_non pa_nil))) pa_nil)))
 (pss_one (ps_ret (pe_and (pe_cmpR (Z.k_eq (K := K) hu) (pe_lc (own := [("one", 6)]) (by rfl) sclaw.nd (pi_list (pv 4)) (blkOk_by (own := [("one", 6)]) (N := ["script", "at", "pot", "four", "told", "name", "one"]) (sc := defScope slaw) (by decide +kernel))
   (fun _ _ _ _ _ => (pg_name (i := 6) sclaw.nd rfl (by first | exact Or.inl rfl | exact Or.inr rfl))) (fun _ _ _ _ _ => pts_nil) (fun _ _ _ _ _ => (pe_cmpR Z.op_isN (pv 6) pe_non (nomark _)))) (pe_lst (pa_cons pe_bl (pa_cons pe_bl (pa_cons pe_bl (pa_cons pe_bl (pa_cons pe_bl (pa_cons pe_bl (pa_cons pe_bl pa_nil)))))))) (nomark _)) (pe_one (pe_cmpR (Z.k_eq (K := K) hu) (pe_glob (v := .int 200) (by rfl) c_MAX_WORD ⟨_, rfl⟩) pe_int (nomark _))))))))))), ?_⟩
    walk_at "st"
    refine .inl ⟨_, .inl hp, ?_⟩
    walk_at "st"
    generalize hM : (if (if ((ns.map V.int).length : Int) < 6 then ((ns.map V.int).length : Int) else 6) > 1 then (if ((ns.map V.int).length : Int) < 6 then ((ns.map V.int).length : Int) else 6) else 1) = M
    obtain ⟨M0, M1⟩ : 0 ≤ M ∧ M ≤ 6 := by
      rw [← hM]
      constructor
      · split <;> omega
      · split <;> split <;> omega
    refine ⟨by omega, by omega, loop walkR (fun i σ2 H2 => (∃ x1 x2 x3 x4 x5 x6, σ2 = [some (.ref p), x1, x2, x3, x4, x5, x6]) ∧ Same H H2) ⟨⟨_, _, _, _, _, _, rfl⟩, Same.refl H⟩ (fun _ _ _ _ => trivial) ?_ ?_⟩
    · rintro i x σ2 H2 hi rfl ⟨⟨x1, x2, x3, x4, x5, x6, rfl⟩, m⟩
      walk_at "st"
      refine ⟨p, ns, _, rfl, m.seq hp, by omega, by omega, fun a A2 B na A0 B0 B1 => ?_⟩
      generalize e3 : upd H2 a _ = H3
      have pot : Pot a H3 := by
        rw [← e3]
        exact ⟨A2, B, 0, upd_same, A0, B0, B1⟩
      walk_at "st"
      refine ⟨a, rfl, pot, fun H4 m4 => ?_⟩
      refine s_bl (P := _) ?_
      refine iteF ?_
      walk_at "st"
      refine ⟨a, rfl, m4.pot, fun H5 m5 => ?_⟩
      refine s_bl (P := _) ?_
      refine iteF ?_
      walk_at "st"
      exact ⟨⟨_, _, _, _, _, _, rfl⟩, same_pot m na e3.symm (m4.trans m5)⟩
    · rintro σ2 H2 ⟨⟨x1, x2, x3, x4, x5, x6, rfl⟩, m⟩
      walk_at "st"
      refine ⟨by show 4 ≤ sizeLine; decide, fun q nq => ?_⟩
      generalize e3 : upd H2 q _ = H3
      have s3 : Same H2 H3 := by rw [← e3]; exact same_new (Same.refl H2) nq
      have h3 : H3 q = some (.tup (oneOf four)) := by rw [← e3]; exact upd_same
      walk_at "st"
      refine ⟨⟨_, SqT.of h3⟩, comp2 (walkT (xs := oneOf four)) (Same H3) (fun L i acc H4 => DzAll K (hid L H4) acc ((four.take i).map prA)) (Same.refl H3) (fun L o H4 e m => same_upd m e) ?_ (fun L _ => .nil) (fun H4 m => same_sqt m (SqT.of h3)) ?_ ?_⟩
      · intro L o i acc H4 e _ dz
        rw [hid_upd]
        exact dz
      · rintro L i acc x H4 fresh hi hx len m4 at_ dz
        have hi4 : i < four.length := hi
        have ex : x = .str four[i] := by
          rw [List.getElem?_map, List.getElem?_eq_getElem hi4] at hx
          exact (Option.some.inj hx).symm
        rw [ex]
        refine turn1 rfl ?_
        walk_at "st"
        refine ⟨by show 2 ≤ sizeLine; decide, fun t nt => ?_⟩
        have tL : t ≠ L := (ne_of_none at_ nt).symm
        refine put2 (acc := acc) (fun o H6 m6 => same_upd m6 fresh) ?_ ?_ (by have : four.length = 4 := rfl; omega) len (same_new m4 nt) ?_
        · intro o i acc H6 _ z
          rw [hid_upd]
          exact z
        · rw [upd_ne tL.symm]
          exact at_
        · have tk : four.take (i + 1) = four.take i ++ [four[i]] := by
            rw [List.take_add_one, List.getElem?_eq_getElem hi4]
            rfl
          rw [tk, List.map_append]
          refine DzAll.app (DzAll.same (same_hidden (same_new (Same.refl H4) nt)) _ _ dz) ?_
          refine .cons (.tup (SqT.of ?_) (.cons (.str _) (.cons (.str _) .nil))) .nil
          rw [hid_ne tL]
          exact upd_same
      · rintro L acc H4 fresh len m4 at_ dz
        have full : four.take (oneOf four).length = four := rfl
        rw [full] at dz
        have dz4 : DzAll K H4 acc (four.map prA) := DzAll.same same_hid _ _ dz
        have al : acc.length = 4 := dz4.len
        walk_at "st"
        refine ⟨_, .inl ⟨SqL.of at_, fun t nt => ?_⟩⟩
        generalize e5 : upd H4 t _ = H5
        have s5 : Same H4 H5 := by rw [← e5]; exact same_new (Same.refl H4) nt
        have h5 : SqT K H5 t acc := by rw [← e5]; exact SqT.of upd_same
        have d5 : DzAll K H5 acc (four.map prA) := DzAll.same s5 _ _ dz4
        have whole : ∀ {G : Hp}, Same H5 G → Dz K G (.ref t) (.tuple (four.map prA)) := fun m => .tup (same_sqt m h5) (DzAll.same m _ _ d5)
        walk_at "st"
        refine cut_tup h5 fun r1 G1 k1 t1 => ?_
        walk_at "st"
        refine cut_tup (same_sqt k1 h5) fun r2 G2 k2 t2 => ?_
        have d1 := dz_take (n := 3) (same_sqt k2 t1) (DzAll.same (k1.trans k2) _ _ d5)
        have d2 := dz_take (n := 0) t2 (DzAll.same (k1.trans k2) _ _ d5)
        walk_at "st"
        refine met_yes d1 d2 (by decide +kernel) (by decide +kernel) (by decide +kernel) fun G3 f1 k3 => ?_
        have j3 := (k1.trans k2).trans k3
        walk_at "st"
        refine cut_tup (same_sqt j3 h5) fun r3 G4 k4 t4 => ?_
        walk_at "st"
        refine ⟨by show 2 ≤ sizeLine; decide, fun w1 nw1 => ?_⟩
        generalize g1 : upd G4 w1 _ = G5
        have k5 : Same G4 G5 := by rw [← g1]; exact same_new (Same.refl G4) nw1
        have u1 : SqT K G5 w1 [.str (Str.ofString "t"), .str (Str.ofString "z")] := by rw [← g1]; exact SqT.of upd_same
        walk_at "st"
        refine ⟨by show 2 ≤ sizeLine; decide, fun w2 nw2 => ?_⟩
        generalize g2 : upd G5 w2 _ = G6
        have k6 : Same G5 G6 := by rw [← g2]; exact same_new (Same.refl G5) nw2
        have u2 : SqT K G6 w2 [.str (Str.ofString "u"), .str (Str.ofString "yz")] := by rw [← g2]; exact SqT.of upd_same
        walk_at "st"
        refine ⟨by show 2 ≤ sizeLine; decide, fun w3 nw3 => ?_⟩
        generalize g3 : upd G6 w3 _ = G7
        have k7 : Same G6 G7 := by rw [← g3]; exact same_new (Same.refl G6) nw3
        have u3 : SqT K G7 w3 [.str (Str.ofString "v"), .str (Str.ofString "b")] := by rw [← g3]; exact SqT.of upd_same
        walk_at "st"
        refine ⟨by show 3 ≤ sizeLine; decide, fun w4 nw4 => ?_⟩
        generalize g4 : upd G7 w4 _ = G8
        have k8 : Same G7 G8 := by rw [← g4]; exact same_new (Same.refl G7) nw4
        have u4 : SqT K G8 w4 [.ref w1, .ref w2, .ref w3] := by rw [← g4]; exact SqT.of upd_same
        have j48 := ((k5.trans k6).trans k7).trans k8
        have d4 := dz_take (n := 3) (same_sqt j48 t4) (DzAll.same (j3.trans (k4.trans j48)) _ _ d5)
        have dw : Dz K G8 (.ref w4) (.tuple [.tuple [.str (Str.ofString "t"), .str (Str.ofString "z")], .tuple [.str (Str.ofString "u"), .str (Str.ofString "yz")], .tuple [.str (Str.ofString "v"), .str (Str.ofString "b")]]) :=
          .tup u4 (.cons (.tup (same_sqt ((k6.trans k7).trans k8) u1) (.cons (.str _) (.cons (.str _) .nil))) (.cons (.tup (same_sqt (k7.trans k8) u2) (.cons (.str _) (.cons (.str _) .nil))) (.cons (.tup (same_sqt k8 u3) (.cons (.str _) (.cons (.str _) .nil))) .nil)))
        walk_at "st"
        refine met_yes d4 dw (by decide +kernel) (by decide +kernel) (by decide +kernel) fun G9 f2 k9 => ?_
        have j9 := ((j3.trans k4).trans j48).trans k9
        walk_at "st"
        refine ⟨by show 0 ≤ sizeLine; decide, fun w5 nw5 => ?_⟩
        generalize g5 : upd G9 w5 _ = G10
        have k10 : Same G9 G10 := by rw [← g5]; exact same_new (Same.refl G9) nw5
        have u5 : SqT K G10 w5 [] := by rw [← g5]; exact SqT.of upd_same
        walk_at "st"
        refine met_no (whole (j9.trans k10)) (.tup u5 .nil) (by decide +kernel) (by decide +kernel) (by decide +kernel) fun G11 k11 => ?_
        have j11 := (j9.trans k10).trans k11
        walk_at "st"
        refine ⟨by show 3 ≤ sizeLine; decide, fun l1 nl1 => ?_⟩
        generalize g6 : upd G11 l1 _ = G12
        have k12 : Same G11 G12 := by rw [← g6]; exact same_new (Same.refl G11) nl1
        have v1 : G12 l1 = some (.lst [.ref f1, .ref f2, .non]) := by rw [← g6]; exact upd_same
        have j12 := j11.trans k12
        clear g1 g2 g3 g4 g5 g6 e3 e5
        walk_at "st"
        refine cut_tup (same_sqt j12 h5) fun r5 G13 k13 t13 => ?_
        walk_at "st"
        refine cut_tup (same_sqt (j12.trans k13) h5) fun r6 G14 k14 t14 => ?_
        have j14 := (j12.trans k13).trans k14
        walk_at "st"
        refine met_no (dz_take (n := 1) (same_sqt k14 t13) (DzAll.same j14 _ _ d5)) (dz_take (n := 1) t14 (DzAll.same j14 _ _ d5)) (by decide +kernel) (by decide +kernel) (by decide +kernel) fun G15 k15 => ?_
        have j15 := j14.trans k15
        walk_at "st"
        refine cut_tup (same_sqt j15 h5) fun r7 G16 k16 t16 => ?_
        have j16 := j15.trans k16
        walk_at "st"
        refine met_no (dz_take (n := 1) t16 (DzAll.same j16 _ _ d5)) (whole j16) (by decide +kernel) (by decide +kernel) (by decide +kernel) fun G17 k17 => ?_
        have j17 := j16.trans k17
        walk_at "st"
        refine ⟨by show 0 ≤ sizeLine; decide, fun w6 nw6 => ?_⟩
        generalize g7 : upd G17 w6 _ = G18
        have k18 : Same G17 G18 := by rw [← g7]; exact same_new (Same.refl G17) nw6
        have u6 : SqT K G18 w6 [] := by rw [← g7]; exact SqT.of upd_same
        have j18 := j17.trans k18
        walk_at "st"
        refine cut_tup (same_sqt j18 h5) fun r8 G19 k19 t19 => ?_
        have j19 := j18.trans k19
        walk_at "st"
        refine met_no (.tup (same_sqt k19 u6) .nil) (dz_take (n := 1) t19 (DzAll.same j19 _ _ d5)) (by decide +kernel) (by decide +kernel) (by decide +kernel) fun G20 k20 => ?_
        have j20 := j19.trans k20
        walk_at "st"
        refine ⟨by show 3 ≤ sizeLine; decide, fun l2 nl2 => ?_⟩
        generalize g8 : upd G20 l2 _ = G21
        have k21 : Same G20 G21 := by rw [← g8]; exact same_new (Same.refl G20) nl2
        have v2 : G21 l2 = some (.lst [.non, .non, .non]) := by rw [← g8]; exact upd_same
        have j1221 := (((((((k13.trans k14).trans k15).trans k16).trans k17).trans k18).trans k19).trans k20).trans k21
        refine cat_lst (j1221 _ _ v1) v2 (by show 3 + 3 ≤ 1000; decide) fun l3 nl3 => ?_
        generalize g9 : upd G21 l3 _ = G22
        have k22 : Same G21 G22 := by rw [← g9]; exact same_new (Same.refl G21) nl3
        have v3 : G22 l3 = some (.lst [.ref f1, .ref f2, .non, .non, .non, .non]) := by rw [← g9]; exact upd_same
        have j22 := (j20.trans k21).trans k22
        clear g7 g8 g9
        walk_at "st"
        refine ⟨.inl ⟨rfl, _, SqL.of v3⟩, ?_⟩
        walk_at "st"
        refine cut_tup (same_sqt j22 h5) fun r9 G23 k23 t23 => ?_
        have j23 := j22.trans k23
        walk_at "st"
        refine met_no (dz_take (n := 2) t23 (DzAll.same j23 _ _ d5)) .non (by decide +kernel) (by decide +kernel) (by decide +kernel) fun G24 k24 => ?_
        refine ⟨l3, _, .non, rfl, rfl, (k23.trans k24) _ _ v3, by show 6 < sizeLine; decide, ?_⟩
        generalize g10 : upd G24 l3 _ = G25
        have v4 : G25 l3 = some (.lst [.ref f1, .ref f2, .non, .non, .non, .non, .non]) := by rw [← g10]; exact upd_same
        walk_at "st"
        refine ⟨⟨_, SqL.of v4⟩, comp (walkL (xs := [.ref f1, .ref f2, .non, .non, .non, .non, .non])) (Same G25) (fun i acc H4 => acc = (([.ref f1, .ref f2, .non, .non, .non, .non, .non] : List V).take i).map fun v => V.bl (decide (v = .non))) (Same.refl G25) (fun L o H4 e m => same_upd m e) (fun _ _ _ _ _ _ _ h => h) rfl (fun i acc H4 m _ => m.seq (SqL.of v4)) ?_ ?_⟩
        · rintro L2 i acc2 x H6 fresh2 hi hx len2 m6 at2 rfl
          refine turn1 rfl ?_
          walk_at "st"
          refine put fresh2 (fun L o H4 e m => same_upd m e) (fun _ _ _ _ _ _ _ h => h) at2 (by have : ([.ref f1, .ref f2, .non, .non, .non, .non, .non] : List V).length = 7 := rfl; omega) len2 m6 ?_
          rw [List.take_add_one, hx, List.map_append]
          rfl
        · rintro L2 acc2 H6 fresh2 len2 m6 at2 rfl
          have fin : (([.ref f1, .ref f2, .non, .non, .non, .non, .non] : List V).take ([.ref f1, .ref f2, .non, .non, .non, .non, .non] : List V).length).map (fun v => V.bl (decide (v = .non))) = [false, false, true, true, true, true, true].map V.bl := rfl
          rw [fin] at at2
          walk_at "st"
          refine ⟨by show 7 ≤ sizeLine; decide, fun z1 nz1 => ?_⟩
          generalize g11 : upd H6 z1 _ = H7
          have k7' : Same H6 H7 := by rw [← g11]; exact same_new (Same.refl H6) nz1
          have v5 : H7 z1 = some (.lst ([false, false, true, true, true, true, true].map V.bl)) := by rw [← g11]; exact upd_same
          refine .inr ⟨.list ([false, false, true, true, true, true, true].map PyData.bool), .list ([false, false, true, true, true, true, true].map PyData.bool), .lst (SqL.of (k7' _ _ at2)) (dp_bools _), .lst (SqL.of v5) (dp_bools _), by decide +kernel, by decide +kernel, ?_⟩
          walk_at "st"
          rw [show PyData.eqv (.list ([false, false, true, true, true, true, true].map PyData.bool)) (.list ([false, false, true, true, true, true, true].map PyData.bool)) = true from by decide +kernel]
          refine iteT ?_
          walk_at "st"
          exact k H7
end
end
end Z
namespace Z
open PySem PySem.Spec PyProof.Rows L2 G
/-- an error of the class at S is what «except S» names -/
theorem exm_self {K : PySem.W.Frag} {S : Addr} (h1 : PySem.W.subIn K (.ref S) (.type "BaseException") = some true) (h2 : PySem.W.isClsIn K S = true) (h3 : PySem.W.typeIn K (.ref S) = some (.type "type")) (h4 : PySem.W.subIn K (.ref S) (.ref S) = some true) :
    PySem.W.exmOne K (.ref S) (.ref S) = some true := by
  have a : (PySem.W.subIn K (.ref S) (.type "BaseException") == some true) = true := by
    rw [h1]
    rfl
  have b : ((PySem.W.clsIn K S).isSome && PySem.W.typeIn K (.ref S) == some (.type "type")) = true := by
    have c : (PySem.W.clsIn K S).isSome = true := h2
    rw [c, h3]
    rfl
  show (if _ then (if _ then PySem.W.subIn K (.ref S) (.ref S) else none) else none) = some true
  rw [if_pos a, if_pos b]
  exact h4
theorem all_mk {P : Program} {w : World} {K : PySem.W.Frag} {h : Heap} {mg : Str → Option Value} {fa : Addr} (X : K.In h) (G : h.Ns mainGlobals mg) (hfa : mg "law" = some (.ref fa))
    {C CF f0 f1 f2 f3 f4 f5 f6 f7 f8 f9 f10 f11 f12 f13 f14 f15 f16 f17 f18 f19 f20 f21 f22 f23 f24 f25 f26 f27 pp27 f28 pp28 : Addr} {od0 an0 od1 an1 od2 an2 od3 an3 od4 an4 od5 an5 od6 an6 od7 an7 od8 an8 od9 an9 od10 an10 od11 an11 od12 an12 od13 an13 od14 an14 od15 an15 od16 an16 od17 an17 od18 an18 od19 an19 od20 an20 od21 an21 od22 an22 od23 an23 od24 an24 od25 an25 od26 an26 od27 an27 od28 an28 : Option Addr} {sl0 sl1 sl2 sl3 sl4 sl5 sl6 sl7 sl8 sl9 sl10 sl11 sl12 sl13 sl14 sl15 sl16 sl17 sl18 sl19 sl20 sl21 sl22 sl23 sl24 sl25 sl26 sl27 sl28 : Array (Option Value)} {oc0 kV0 dc0 pm0 cd0 ct0 oc1 kV1 dc1 pm1 cd1 ct1 oc2 kV2 dc2 pm2 cd2 ct2 oc3 kV3 dc3 pm3 cd3 ct3 oc4 kV4 dc4 pm4 cd4 ct4 oc5 kV5 dc5 pm5 cd5 ct5 oc6 kV6 dc6 pm6 cd6 ct6 oc7 kV7 dc7 pm7 cd7 ct7 oc8 kV8 dc8 pm8 cd8 ct8 oc9 kV9 dc9 pm9 cd9 ct9 oc10 kV10 dc10 pm10 cd10 ct10 oc11 kV11 dc11 pm11 cd11 ct11 oc12 kV12 dc12 pm12 cd12 ct12 oc13 kV13 dc13 pm13 cd13 ct13 oc14 kV14 dc14 pm14 cd14 ct14 oc15 kV15 dc15 pm15 cd15 ct15 oc16 kV16 dc16 pm16 cd16 ct16 oc17 kV17 dc17 pm17 cd17 ct17 oc18 kV18 dc18 pm18 cd18 ct18 oc19 kV19 dc19 pm19 cd19 ct19 oc20 kV20 dc20 pm20 cd20 ct20 oc21 kV21 dc21 pm21 cd21 ct21 oc22 kV22 dc22 pm22 cd22 ct22 oc23 kV23 dc23 pm23 cd23 ct23 oc24 kV24 dc24 pm24 cd24 ct24 oc25 kV25 dc25 pm25 cd25 ct25 oc26 kV26 dc26 pm26 cd26 ct26 oc27 kV27 dc27 pm27 cd27 ct27 oc28 kV28 dc28 pm28 cd28 ct28 : Value} {tk_MAX_NAME tk_MAX_SIGNS tk_MAX_KIND tk_MAX_WORD : Tok} {rest27 rest28 : List Value}
    (aC : PySem.W.nsIn K mainGlobals "Streams" = some (some (.ref C)))
    (aF : PySem.W.nsIn K mainGlobals "InvalidStreams" = some (some (.ref CF)))
    (a0 : PySem.W.nsIn K mainGlobals "law" = some (some (.ref f0)))
    (l0 : K.lookup f0 = some ⟨oc0, od0, .func (PySem.W.fnOf "law" "law" (defArgs slaw) (defBody slaw) (defScope slaw) .none kV0 dc0 pm0 an0 cd0 ct0), sl0⟩)
    (c0 : PySem.W.codeIn K cd0 "law" = true)
    (k0 : PySem.W.keepIn K (.ref f0) = true)
    (a1 : PySem.W.nsIn K mainGlobals "_law_filled" = some (some (.ref f1)))
    (l1 : K.lookup f1 = some ⟨oc1, od1, .func (PySem.W.fnOf "_law_filled" "_law_filled" (defArgs s_law_filled) (defBody s_law_filled) (defScope s_law_filled) .none kV1 dc1 pm1 an1 cd1 ct1), sl1⟩)
    (c1 : PySem.W.codeIn K cd1 "_law_filled" = true)
    (k1 : PySem.W.keepIn K (.ref f1) = true)
    (a2 : PySem.W.nsIn K mainGlobals "_law_texts_right" = some (some (.ref f2)))
    (l2 : K.lookup f2 = some ⟨oc2, od2, .func (PySem.W.fnOf "_law_texts_right" "_law_texts_right" (defArgs s_law_texts_right) (defBody s_law_texts_right) (defScope s_law_texts_right) .none kV2 dc2 pm2 an2 cd2 ct2), sl2⟩)
    (c2 : PySem.W.codeIn K cd2 "_law_texts_right" = true)
    (k2 : PySem.W.keepIn K (.ref f2) = true)
    (a3 : PySem.W.nsIn K mainGlobals "_law_streams_right" = some (some (.ref f3)))
    (l3 : K.lookup f3 = some ⟨oc3, od3, .func (PySem.W.fnOf "_law_streams_right" "_law_streams_right" (defArgs s_law_streams_right) (defBody s_law_streams_right) (defScope s_law_streams_right) .none kV3 dc3 pm3 an3 cd3 ct3), sl3⟩)
    (c3 : PySem.W.codeIn K cd3 "_law_streams_right" = true)
    (k3 : PySem.W.keepIn K (.ref f3) = true)
    (a4 : PySem.W.nsIn K mainGlobals "_law_parts" = some (some (.ref f4)))
    (l4 : K.lookup f4 = some ⟨oc4, od4, .func (PySem.W.fnOf "_law_parts" "_law_parts" (defArgs s_law_parts) (defBody s_law_parts) (defScope s_law_parts) .none kV4 dc4 pm4 an4 cd4 ct4), sl4⟩)
    (c4 : PySem.W.codeIn K cd4 "_law_parts" = true)
    (k4 : PySem.W.keepIn K (.ref f4) = true)
    (a5 : PySem.W.nsIn K mainGlobals "_law_near" = some (some (.ref f5)))
    (l5 : K.lookup f5 = some ⟨oc5, od5, .func (PySem.W.fnOf "_law_near" "_law_near" (defArgs s_law_near) (defBody s_law_near) (defScope s_law_near) .none kV5 dc5 pm5 an5 cd5 ct5), sl5⟩)
    (c5 : PySem.W.codeIn K cd5 "_law_near" = true)
    (k5 : PySem.W.keepIn K (.ref f5) = true)
    (a6 : PySem.W.nsIn K mainGlobals "_law_odd_text" = some (some (.ref f6)))
    (l6 : K.lookup f6 = some ⟨oc6, od6, .func (PySem.W.fnOf "_law_odd_text" "_law_odd_text" (defArgs s_law_odd_text) (defBody s_law_odd_text) (defScope s_law_odd_text) .none kV6 dc6 pm6 an6 cd6 ct6), sl6⟩)
    (c6 : PySem.W.codeIn K cd6 "_law_odd_text" = true)
    (k6 : PySem.W.keepIn K (.ref f6) = true)
    (a7 : PySem.W.nsIn K mainGlobals "_law_dip" = some (some (.ref f7)))
    (l7 : K.lookup f7 = some ⟨oc7, od7, .func (PySem.W.fnOf "_law_dip" "_law_dip" (defArgs s_law_dip) (defBody s_law_dip) (defScope s_law_dip) .none kV7 dc7 pm7 an7 cd7 ct7), sl7⟩)
    (c7 : PySem.W.codeIn K cd7 "_law_dip" = true)
    (k7 : PySem.W.keepIn K (.ref f7) = true)
    (a8 : PySem.W.nsIn K mainGlobals "_law_choose" = some (some (.ref f8)))
    (l8 : K.lookup f8 = some ⟨oc8, od8, .func (PySem.W.fnOf "_law_choose" "_law_choose" (defArgs s_law_choose) (defBody s_law_choose) (defScope s_law_choose) .none kV8 dc8 pm8 an8 cd8 ct8), sl8⟩)
    (c8 : PySem.W.codeIn K cd8 "_law_choose" = true)
    (k8 : PySem.W.keepIn K (.ref f8) = true)
    (a9 : PySem.W.nsIn K mainGlobals "_law_name" = some (some (.ref f9)))
    (l9 : K.lookup f9 = some ⟨oc9, od9, .func (PySem.W.fnOf "_law_name" "_law_name" (defArgs s_law_name) (defBody s_law_name) (defScope s_law_name) .none kV9 dc9 pm9 an9 cd9 ct9), sl9⟩)
    (c9 : PySem.W.codeIn K cd9 "_law_name" = true)
    (k9 : PySem.W.keepIn K (.ref f9) = true)
    (a10 : PySem.W.nsIn K mainGlobals "_law_free" = some (some (.ref f10)))
    (l10 : K.lookup f10 = some ⟨oc10, od10, .func (PySem.W.fnOf "_law_free" "_law_free" (defArgs s_law_free) (defBody s_law_free) (defScope s_law_free) .none kV10 dc10 pm10 an10 cd10 ct10), sl10⟩)
    (c10 : PySem.W.codeIn K cd10 "_law_free" = true)
    (k10 : PySem.W.keepIn K (.ref f10) = true)
    (a11 : PySem.W.nsIn K mainGlobals "_law_names" = some (some (.ref f11)))
    (l11 : K.lookup f11 = some ⟨oc11, od11, .func (PySem.W.fnOf "_law_names" "_law_names" (defArgs s_law_names) (defBody s_law_names) (defScope s_law_names) .none kV11 dc11 pm11 an11 cd11 ct11), sl11⟩)
    (c11 : PySem.W.codeIn K cd11 "_law_names" = true)
    (k11 : PySem.W.keepIn K (.ref f11) = true)
    (a12 : PySem.W.nsIn K mainGlobals "_law_shuffled" = some (some (.ref f12)))
    (l12 : K.lookup f12 = some ⟨oc12, od12, .func (PySem.W.fnOf "_law_shuffled" "_law_shuffled" (defArgs s_law_shuffled) (defBody s_law_shuffled) (defScope s_law_shuffled) .none kV12 dc12 pm12 an12 cd12 ct12), sl12⟩)
    (c12 : PySem.W.codeIn K cd12 "_law_shuffled" = true)
    (k12 : PySem.W.keepIn K (.ref f12) = true)
    (a13 : PySem.W.nsIn K mainGlobals "_law_signs" = some (some (.ref f13)))
    (l13 : K.lookup f13 = some ⟨oc13, od13, .func (PySem.W.fnOf "_law_signs" "_law_signs" (defArgs s_law_signs) (defBody s_law_signs) (defScope s_law_signs) .none kV13 dc13 pm13 an13 cd13 ct13), sl13⟩)
    (c13 : PySem.W.codeIn K cd13 "_law_signs" = true)
    (k13 : PySem.W.keepIn K (.ref f13) = true)
    (a14 : PySem.W.nsIn K mainGlobals "_law_are_streams" = some (some (.ref f14)))
    (l14 : K.lookup f14 = some ⟨oc14, od14, .func (PySem.W.fnOf "_law_are_streams" "_law_are_streams" (defArgs s_law_are_streams) (defBody s_law_are_streams) (defScope s_law_are_streams) .none kV14 dc14 pm14 an14 cd14 ct14), sl14⟩)
    (c14 : PySem.W.codeIn K cd14 "_law_are_streams" = true)
    (k14 : PySem.W.keepIn K (.ref f14) = true)
    (a15 : PySem.W.nsIn K mainGlobals "_law_are_parts" = some (some (.ref f15)))
    (l15 : K.lookup f15 = some ⟨oc15, od15, .func (PySem.W.fnOf "_law_are_parts" "_law_are_parts" (defArgs s_law_are_parts) (defBody s_law_are_parts) (defScope s_law_are_parts) .none kV15 dc15 pm15 an15 cd15 ct15), sl15⟩)
    (c15 : PySem.W.codeIn K cd15 "_law_are_parts" = true)
    (k15 : PySem.W.keepIn K (.ref f15) = true)
    (a16 : PySem.W.nsIn K mainGlobals "_law_is_name" = some (some (.ref f16)))
    (l16 : K.lookup f16 = some ⟨oc16, od16, .func (PySem.W.fnOf "_law_is_name" "_law_is_name" (defArgs s_law_is_name) (defBody s_law_is_name) (defScope s_law_is_name) .none kV16 dc16 pm16 an16 cd16 ct16), sl16⟩)
    (c16 : PySem.W.codeIn K cd16 "_law_is_name" = true)
    (k16 : PySem.W.keepIn K (.ref f16) = true)
    (a17 : PySem.W.nsIn K mainGlobals "_law_is_signs" = some (some (.ref f17)))
    (l17 : K.lookup f17 = some ⟨oc17, od17, .func (PySem.W.fnOf "_law_is_signs" "_law_is_signs" (defArgs s_law_is_signs) (defBody s_law_is_signs) (defScope s_law_is_signs) .none kV17 dc17 pm17 an17 cd17 ct17), sl17⟩)
    (c17 : PySem.W.codeIn K cd17 "_law_is_signs" = true)
    (k17 : PySem.W.keepIn K (.ref f17) = true)
    (a18 : PySem.W.nsIn K mainGlobals "_law_is_letters" = some (some (.ref f18)))
    (l18 : K.lookup f18 = some ⟨oc18, od18, .func (PySem.W.fnOf "_law_is_letters" "_law_is_letters" (defArgs s_law_is_letters) (defBody s_law_is_letters) (defScope s_law_is_letters) .none kV18 dc18 pm18 an18 cd18 ct18), sl18⟩)
    (c18 : PySem.W.codeIn K cd18 "_law_is_letters" = true)
    (k18 : PySem.W.keepIn K (.ref f18) = true)
    (a19 : PySem.W.nsIn K mainGlobals "_law_met" = some (some (.ref f19)))
    (l19 : K.lookup f19 = some ⟨oc19, od19, .func (PySem.W.fnOf "_law_met" "_law_met" (defArgs s_law_met) (defBody s_law_met) (defScope s_law_met) .none kV19 dc19 pm19 an19 cd19 ct19), sl19⟩)
    (c19 : PySem.W.codeIn K cd19 "_law_met" = true)
    (k19 : PySem.W.keepIn K (.ref f19) = true)
    (a20 : PySem.W.nsIn K mainGlobals "_are_streams" = some (some (.ref f20)))
    (l20 : K.lookup f20 = some ⟨oc20, od20, .func (PySem.W.fnOf "_are_streams" "_are_streams" (defArgs s_are_streams) (defBody s_are_streams) (defScope s_are_streams) .none kV20 dc20 pm20 an20 cd20 ct20), sl20⟩)
    (c20 : PySem.W.codeIn K cd20 "_are_streams" = true)
    (k20 : PySem.W.keepIn K (.ref f20) = true)
    (a21 : PySem.W.nsIn K mainGlobals "_are_kind" = some (some (.ref f21)))
    (l21 : K.lookup f21 = some ⟨oc21, od21, .func (PySem.W.fnOf "_are_kind" "_are_kind" (defArgs s_are_kind) (defBody s_are_kind) (defScope s_are_kind) .none kV21 dc21 pm21 an21 cd21 ct21), sl21⟩)
    (c21 : PySem.W.codeIn K cd21 "_are_kind" = true)
    (k21 : PySem.W.keepIn K (.ref f21) = true)
    (a22 : PySem.W.nsIn K mainGlobals "_is_stream" = some (some (.ref f22)))
    (l22 : K.lookup f22 = some ⟨oc22, od22, .func (PySem.W.fnOf "_is_stream" "_is_stream" (defArgs s_is_stream) (defBody s_is_stream) (defScope s_is_stream) .none kV22 dc22 pm22 an22 cd22 ct22), sl22⟩)
    (c22 : PySem.W.codeIn K cd22 "_is_stream" = true)
    (k22 : PySem.W.keepIn K (.ref f22) = true)
    (a23 : PySem.W.nsIn K mainGlobals "is_name" = some (some (.ref f23)))
    (l23 : K.lookup f23 = some ⟨oc23, od23, .func (PySem.W.fnOf "is_name" "is_name" (defArgs sis_name) (defBody sis_name) (defScope sis_name) .none kV23 dc23 pm23 an23 cd23 ct23), sl23⟩)
    (c23 : PySem.W.codeIn K cd23 "is_name" = true)
    (k23 : PySem.W.keepIn K (.ref f23) = true)
    (a24 : PySem.W.nsIn K mainGlobals "is_signs" = some (some (.ref f24)))
    (l24 : K.lookup f24 = some ⟨oc24, od24, .func (PySem.W.fnOf "is_signs" "is_signs" (defArgs sis_signs) (defBody sis_signs) (defScope sis_signs) .none kV24 dc24 pm24 an24 cd24 ct24), sl24⟩)
    (c24 : PySem.W.codeIn K cd24 "is_signs" = true)
    (k24 : PySem.W.keepIn K (.ref f24) = true)
    (a25 : PySem.W.nsIn K mainGlobals "are_letters" = some (some (.ref f25)))
    (l25 : K.lookup f25 = some ⟨oc25, od25, .func (PySem.W.fnOf "are_letters" "are_letters" (defArgs sare_letters) (defBody sare_letters) (defScope sare_letters) .none kV25 dc25 pm25 an25 cd25 ct25), sl25⟩)
    (c25 : PySem.W.codeIn K cd25 "are_letters" = true)
    (k25 : PySem.W.keepIn K (.ref f25) = true)
    (a26 : PySem.W.findIn K (.ref C) "__init__" = some (some (.ref f26)))
    (i26 : PySem.W.isFn K (.ref f26) = true)
    (l26 : K.lookup f26 = some ⟨oc26, od26, .func (PySem.W.fnOf "__init__" "Streams.__init__" (defArgs sStreams___init__) (defBody sStreams___init__) (defScope sStreams___init__) .none kV26 dc26 pm26 an26 cd26 ct26), sl26⟩)
    (c26 : PySem.W.codeIn K cd26 "Streams.__init__" = true)
    (k26 : PySem.W.keepIn K (.ref f26) = true)
    (a27 : PySem.W.findIn K (.ref C) "sources" = some (some (.ref pp27)))
    (g27 : PySem.W.specialIn K (.ref pp27) "__get__" = some (some (.builtin "property.__get__")))
    (t27 : PySem.W.takesIn K (.ref pp27) = some true)
    (r27 : PySem.W.recIn K pp27 "property" = some (.ref f27 :: rest27))
    (l27 : K.lookup f27 = some ⟨oc27, od27, .func (PySem.W.fnOf "sources" "Streams.sources" (defArgs sStreams_sources) (defBody sStreams_sources) (defScope sStreams_sources) .none kV27 dc27 pm27 an27 cd27 ct27), sl27⟩)
    (c27 : PySem.W.codeIn K cd27 "Streams.sources" = true)
    (k27 : PySem.W.keepIn K (.ref f27) = true)
    (a28 : PySem.W.findIn K (.ref C) "sinks" = some (some (.ref pp28)))
    (g28 : PySem.W.specialIn K (.ref pp28) "__get__" = some (some (.builtin "property.__get__")))
    (t28 : PySem.W.takesIn K (.ref pp28) = some true)
    (r28 : PySem.W.recIn K pp28 "property" = some (.ref f28 :: rest28))
    (l28 : K.lookup f28 = some ⟨oc28, od28, .func (PySem.W.fnOf "sinks" "Streams.sinks" (defArgs sStreams_sinks) (defBody sStreams_sinks) (defScope sStreams_sinks) .none kV28 dc28 pm28 an28 cd28 ct28), sl28⟩)
    (c28 : PySem.W.codeIn K cd28 "Streams.sinks" = true)
    (k28 : PySem.W.keepIn K (.ref f28) = true)
    (pg : PySem.W.plainGet K C Str.empty = true)
    (hd : PySem.W.hasDictIn K C = true)
    (po : PySem.W.plainOver K C = true)
    (sa : PySem.W.findIn K (.ref C) "__setattr__" = some (some (.builtin "object.__setattr__")))
    (mk : PySem.W.makesIn K C = true)
    (kc : PySem.W.keepIn K (.ref C) = true)
    (n1 : PySem.W.findIn K (.ref C) "_sources" = some none)
    (n2 : PySem.W.findIn K (.ref C) "_sinks" = some none)
    (n3 : PySem.W.findIn K (.ref C) "_names" = some none)
    (n4 : PySem.W.findIn K (.ref C) "_signs" = some none)
    (xF : PySem.W.excIn K CF [.type "ValueError", .type "Exception", .type "BaseException", .type "object"] "ValueError.__new__" = true)
    (kF : PySem.W.keepIn K (.ref CF) = true)
    (bF : PySem.W.subIn K (.ref CF) (.type "BaseException") = some true)
    (tF : PySem.W.typeIn K (.ref CF) = some (.type "type"))
    (iF : PySem.W.isClsIn K CF = true)
    (sF : PySem.W.subIn K (.ref CF) (.ref CF) = some true)
    (z_int : PySem.W.nsIn K mainGlobals "int" = some none)
    (z_len : PySem.W.nsIn K mainGlobals "len" = some none)
    (z_list : PySem.W.nsIn K mainGlobals "list" = some none)
    (z_range : PySem.W.nsIn K mainGlobals "range" = some none)
    (z_sorted : PySem.W.nsIn K mainGlobals "sorted" = some none)
    (z_tuple : PySem.W.nsIn K mainGlobals "tuple" = some none)
    (z_isinstance : PySem.W.nsIn K mainGlobals "isinstance" = some none)
    (z_str : PySem.W.nsIn K mainGlobals "str" = some none)
    (z_all : PySem.W.nsIn K mainGlobals "all" = some none)
    (z_zip : PySem.W.nsIn K mainGlobals "zip" = some none)
    (z_set : PySem.W.nsIn K mainGlobals "set" = some none)
    (z_max : PySem.W.nsIn K mainGlobals "max" = some none)
    (z_min : PySem.W.nsIn K mainGlobals "min" = some none)
    (z_abs : PySem.W.nsIn K mainGlobals "abs" = some none)
    (z_dict : PySem.W.nsIn K mainGlobals "dict" = some none)
    (z_repr : PySem.W.nsIn K mainGlobals "repr" = some none)
    (v_MAX_NAME : PySem.W.nsIn K mainGlobals "MAX_NAME" = some (some (.int 8 tk_MAX_NAME)))
    (v_MAX_SIGNS : PySem.W.nsIn K mainGlobals "MAX_SIGNS" = some (some (.int 4 tk_MAX_SIGNS)))
    (v_MAX_KIND : PySem.W.nsIn K mainGlobals "MAX_KIND" = some (some (.int 3 tk_MAX_KIND)))
    (v_MAX_WORD : PySem.W.nsIn K mainGlobals "MAX_WORD" = some (some (.int 200 tk_MAX_WORD))) :
    ∃ fd : FuncData, (∀ (s : Shared) (u : Value), BindsTo s fd ⟨[u], []⟩ [("script", u)]) ∧ ∀ base : Heap, K.In base → base.Ns mainGlobals mg → FnG P w K mg base CX0 10 fa fd ["script"] (spLaw K) := by
  have e := hfa.symm.trans (PySem.W.mg_of X G a0)
  cases e
  have F0 := fun_mk (st := slaw) l0 c0 k0
  have b0 := F0.binds (ps := ["script"]) fun _ _ _ _ _ _ us hl => match us, hl with | [_], _ => rfl
  have D0 : Def K mg "law" slaw ["script"] fa _ := ⟨F0, PySem.W.mg_of X G a0, b0⟩
  have F1 := fun_mk (st := s_law_filled) l1 c1 k1
  have b1 := F1.binds (ps := ["script", "at"]) fun _ _ _ _ _ _ us hl => match us, hl with | [_, _], _ => rfl
  have D1 : Def K mg "_law_filled" s_law_filled ["script", "at"] f1 _ := ⟨F1, PySem.W.mg_of X G a1, b1⟩
  have F2 := fun_mk (st := s_law_texts_right) l2 c2 k2
  have b2 := F2.binds (ps := ["pot"]) fun _ _ _ _ _ _ us hl => match us, hl with | [_], _ => rfl
  have D2 : Def K mg "_law_texts_right" s_law_texts_right ["pot"] f2 _ := ⟨F2, PySem.W.mg_of X G a2, b2⟩
  have F3 := fun_mk (st := s_law_streams_right) l3 c3 k3
  have b3 := F3.binds (ps := ["pot"]) fun _ _ _ _ _ _ us hl => match us, hl with | [_], _ => rfl
  have D3 : Def K mg "_law_streams_right" s_law_streams_right ["pot"] f3 _ := ⟨F3, PySem.W.mg_of X G a3, b3⟩
  have F4 := fun_mk (st := s_law_parts) l4 c4 k4
  have b4 := F4.binds (ps := ["pot", "most"]) fun _ _ _ _ _ _ us hl => match us, hl with | [_, _], _ => rfl
  have D4 : Def K mg "_law_parts" s_law_parts ["pot", "most"] f4 _ := ⟨F4, PySem.W.mg_of X G a4, b4⟩
  have F5 := fun_mk (st := s_law_near) l5 c5 k5
  have b5 := F5.binds (ps := ["pot", "parts"]) fun _ _ _ _ _ _ us hl => match us, hl with | [_, _], _ => rfl
  have D5 : Def K mg "_law_near" s_law_near ["pot", "parts"] f5 _ := ⟨F5, PySem.W.mg_of X G a5, b5⟩
  have F6 := fun_mk (st := s_law_odd_text) l6 c6 k6
  have b6 := F6.binds (ps := ["pot", "word"]) fun _ _ _ _ _ _ us hl => match us, hl with | [_, _], _ => rfl
  have D6 : Def K mg "_law_odd_text" s_law_odd_text ["pot", "word"] f6 _ := ⟨F6, PySem.W.mg_of X G a6, b6⟩
  have F7 := fun_mk (st := s_law_dip) l7 c7 k7
  have b7 := F7.binds (ps := ["pot", "total"]) fun _ _ _ _ _ _ us hl => match us, hl with | [_, _], _ => rfl
  have D7 : Def K mg "_law_dip" s_law_dip ["pot", "total"] f7 _ := ⟨F7, PySem.W.mg_of X G a7, b7⟩
  have F8 := fun_mk (st := s_law_choose) l8 c8 k8
  have b8 := F8.binds (ps := ["pot", "items"]) fun _ _ _ _ _ _ us hl => match us, hl with | [_, _], _ => rfl
  have D8 : Def K mg "_law_choose" s_law_choose ["pot", "items"] f8 _ := ⟨F8, PySem.W.mg_of X G a8, b8⟩
  have F9 := fun_mk (st := s_law_name) l9 c9 k9
  have b9 := F9.binds (ps := ["pot"]) fun _ _ _ _ _ _ us hl => match us, hl with | [_], _ => rfl
  have D9 : Def K mg "_law_name" s_law_name ["pot"] f9 _ := ⟨F9, PySem.W.mg_of X G a9, b9⟩
  have F10 := fun_mk (st := s_law_free) l10 c10 k10
  have b10 := F10.binds (ps := ["names"]) fun _ _ _ _ _ _ us hl => match us, hl with | [_], _ => rfl
  have D10 : Def K mg "_law_free" s_law_free ["names"] f10 _ := ⟨F10, PySem.W.mg_of X G a10, b10⟩
  have F11 := fun_mk (st := s_law_names) l11 c11 k11
  have b11 := F11.binds (ps := ["pot", "many"]) fun _ _ _ _ _ _ us hl => match us, hl with | [_, _], _ => rfl
  have D11 : Def K mg "_law_names" s_law_names ["pot", "many"] f11 _ := ⟨F11, PySem.W.mg_of X G a11, b11⟩
  have F12 := fun_mk (st := s_law_shuffled) l12 c12 k12
  have b12 := F12.binds (ps := ["pot", "items"]) fun _ _ _ _ _ _ us hl => match us, hl with | [_, _], _ => rfl
  have D12 : Def K mg "_law_shuffled" s_law_shuffled ["pot", "items"] f12 _ := ⟨F12, PySem.W.mg_of X G a12, b12⟩
  have F13 := fun_mk (st := s_law_signs) l13 c13 k13
  have b13 := F13.binds (ps := ["pot"]) fun _ _ _ _ _ _ us hl => match us, hl with | [_], _ => rfl
  have D13 : Def K mg "_law_signs" s_law_signs ["pot"] f13 _ := ⟨F13, PySem.W.mg_of X G a13, b13⟩
  have F14 := fun_mk (st := s_law_are_streams) l14 c14 k14
  have b14 := F14.binds (ps := ["sources", "sinks"]) fun _ _ _ _ _ _ us hl => match us, hl with | [_, _], _ => rfl
  have D14 : Def K mg "_law_are_streams" s_law_are_streams ["sources", "sinks"] f14 _ := ⟨F14, PySem.W.mg_of X G a14, b14⟩
  have F15 := fun_mk (st := s_law_are_parts) l15 c15 k15
  have b15 := F15.binds (ps := ["value", "least"]) fun _ _ _ _ _ _ us hl => match us, hl with | [_, _], _ => rfl
  have D15 : Def K mg "_law_are_parts" s_law_are_parts ["value", "least"] f15 _ := ⟨F15, PySem.W.mg_of X G a15, b15⟩
  have F16 := fun_mk (st := s_law_is_name) l16 c16 k16
  have b16 := F16.binds (ps := ["value"]) fun _ _ _ _ _ _ us hl => match us, hl with | [_], _ => rfl
  have D16 : Def K mg "_law_is_name" s_law_is_name ["value"] f16 _ := ⟨F16, PySem.W.mg_of X G a16, b16⟩
  have F17 := fun_mk (st := s_law_is_signs) l17 c17 k17
  have b17 := F17.binds (ps := ["value"]) fun _ _ _ _ _ _ us hl => match us, hl with | [_], _ => rfl
  have D17 : Def K mg "_law_is_signs" s_law_is_signs ["value"] f17 _ := ⟨F17, PySem.W.mg_of X G a17, b17⟩
  have F18 := fun_mk (st := s_law_is_letters) l18 c18 k18
  have b18 := F18.binds (ps := ["value", "least", "most"]) fun _ _ _ _ _ _ us hl => match us, hl with | [_, _, _], _ => rfl
  have D18 : Def K mg "_law_is_letters" s_law_is_letters ["value", "least", "most"] f18 _ := ⟨F18, PySem.W.mg_of X G a18, b18⟩
  have F19 := fun_mk (st := s_law_met) l19 c19 k19
  have b19 := F19.binds (ps := ["sources", "sinks"]) fun _ _ _ _ _ _ us hl => match us, hl with | [_, _], _ => rfl
  have D19 : Def K mg "_law_met" s_law_met ["sources", "sinks"] f19 _ := ⟨F19, PySem.W.mg_of X G a19, b19⟩
  have F20 := fun_mk (st := s_are_streams) l20 c20 k20
  have b20 := F20.binds (ps := ["sources", "sinks"]) fun _ _ _ _ _ _ us hl => match us, hl with | [_, _], _ => rfl
  have D20 : Def K mg "_are_streams" s_are_streams ["sources", "sinks"] f20 _ := ⟨F20, PySem.W.mg_of X G a20, b20⟩
  have F21 := fun_mk (st := s_are_kind) l21 c21 k21
  have b21 := F21.binds (ps := ["value", "fewest"]) fun _ _ _ _ _ _ us hl => match us, hl with | [_, _], _ => rfl
  have D21 : Def K mg "_are_kind" s_are_kind ["value", "fewest"] f21 _ := ⟨F21, PySem.W.mg_of X G a21, b21⟩
  have F22 := fun_mk (st := s_is_stream) l22 c22 k22
  have b22 := F22.binds (ps := ["value"]) fun _ _ _ _ _ _ us hl => match us, hl with | [_], _ => rfl
  have D22 : Def K mg "_is_stream" s_is_stream ["value"] f22 _ := ⟨F22, PySem.W.mg_of X G a22, b22⟩
  have F23 := fun_mk (st := sis_name) l23 c23 k23
  have b23 := F23.binds (ps := ["value"]) fun _ _ _ _ _ _ us hl => match us, hl with | [_], _ => rfl
  have D23 : Def K mg "is_name" sis_name ["value"] f23 _ := ⟨F23, PySem.W.mg_of X G a23, b23⟩
  have F24 := fun_mk (st := sis_signs) l24 c24 k24
  have b24 := F24.binds (ps := ["value"]) fun _ _ _ _ _ _ us hl => match us, hl with | [_], _ => rfl
  have D24 : Def K mg "is_signs" sis_signs ["value"] f24 _ := ⟨F24, PySem.W.mg_of X G a24, b24⟩
  have F25 := fun_mk (st := sare_letters) l25 c25 k25
  have b25 := F25.binds (ps := ["text"]) fun _ _ _ _ _ _ us hl => match us, hl with | [_], _ => rfl
  have D25 : Def K mg "are_letters" sare_letters ["text"] f25 _ := ⟨F25, PySem.W.mg_of X G a25, b25⟩
  have F26 := fun_mk (st := sStreams___init__) l26 c26 k26
  have b26 := F26.binds (ps := ["self", "sources", "sinks"]) fun _ _ _ _ _ _ us hl => match us, hl with | [_, _, _], _ => rfl
  have F27 := fun_mk (st := sStreams_sources) l27 c27 k27
  have b27 := F27.binds (ps := ["self"]) fun _ _ _ _ _ _ us hl => match us, hl with | [_], _ => rfl
  have F28 := fun_mk (st := sStreams_sinks) l28 c28 k28
  have b28 := F28.binds (ps := ["self"]) fun _ _ _ _ _ _ us hl => match us, hl with | [_], _ => rfl
  have T : Txt2 mg := ⟨⟨PySem.W.mg_none_of X G z_int, PySem.W.mg_none_of X G z_len, PySem.W.mg_none_of X G z_list, PySem.W.mg_none_of X G z_range, PySem.W.mg_none_of X G z_sorted, PySem.W.mg_none_of X G z_tuple⟩, PySem.W.mg_none_of X G z_isinstance, PySem.W.mg_none_of X G z_str, PySem.W.mg_none_of X G z_all, PySem.W.mg_none_of X G z_zip, PySem.W.mg_none_of X G z_set, PySem.W.mg_none_of X G z_max, PySem.W.mg_none_of X G z_min, PySem.W.mg_none_of X G z_abs, PySem.W.mg_none_of X G z_dict, PySem.W.mg_none_of X G z_repr⟩
  have N_MAX_NAME : Num mg "MAX_NAME" 8 := ⟨_, PySem.W.mg_of X G v_MAX_NAME⟩
  have N_MAX_SIGNS : Num mg "MAX_SIGNS" 4 := ⟨_, PySem.W.mg_of X G v_MAX_SIGNS⟩
  have N_MAX_KIND : Num mg "MAX_KIND" 3 := ⟨_, PySem.W.mg_of X G v_MAX_KIND⟩
  have N_MAX_WORD : Num mg "MAX_WORD" 200 := ⟨_, PySem.W.mg_of X G v_MAX_WORD⟩
  have XE : Err K mg "InvalidStreams" CF := ⟨PySem.W.mg_of X G aF, xF, kF, bF, tF, exm_self bF iF tF sF⟩
  have SC : StrmC K C := ⟨⟨pg, hd, po, sa⟩, n1, n2, n3, n4⟩
  have P1 : PropOf K C "sources" pp27 f27 := ⟨a27, g27, t27, ⟨_, r27⟩⟩
  have P2 : PropOf K C "sinks" pp28 f28 := ⟨a28, g28, t28, ⟨_, r28⟩⟩
  exact ⟨PySem.W.fnOf "law" "law" (defArgs slaw) (defBody slaw) (defScope slaw) .none kV0 dc0 pm0 an0 cd0 ct0, fun s u => .of_eq rfl, fun base _ _ => ok_law T N_MAX_NAME N_MAX_SIGNS N_MAX_KIND N_MAX_WORD D0 D1 D2 D3 D4 D5 D6 D7 D8 D9 D10 D11 D12 D13 D14 D15 D16 D17 D18 D19 ⟨mk, a26, i26, kc⟩ F26 b26 (PySem.W.mg_of X G aC) SC XE P1 F27 b27 P2 F28 b28 D20 D21 D22 D23 D24 D25⟩
end Z
open PySem PySem.W PyProof.Rows
set_option maxHeartbeats 0 in
theorem PySem.Challenge.cw_fewersteps_k00_names_signs_and_streams_j_holds : PySem.Challenge.rw_fewersteps_k00_names_signs_and_streams_j.Holds := by
  w_on; o_law; k_head; (case hw => w_witness2)
  k_fill
  refine G.walk (n := 63) (k := 10) (x := "script") (CX := fun _ => L2.CX0) (sp := fun w => Z.spLaw _) rfl (by decide) rfl ⟨rfl, by decide, by decide⟩ (fun w h Y => PySem.W.kIn_of Y) ?F (fun _ _ a ns _ _ hS => ⟨a, ns, rfl, hS, fun _ => rfl⟩) (fun _ _ _ _ _ h => h)
  case F =>
    intro w mg fa h KX G hmg
    refine' Z.all_mk KX G hmg ?aC ?aF ?a0 ?l0 ?c0 ?k0 ?a1 ?l1 ?c1 ?k1 ?a2 ?l2 ?c2 ?k2 ?a3 ?l3 ?c3 ?k3 ?a4 ?l4 ?c4 ?k4 ?a5 ?l5 ?c5 ?k5 ?a6 ?l6 ?c6 ?k6 ?a7 ?l7 ?c7 ?k7 ?a8 ?l8 ?c8 ?k8 ?a9 ?l9 ?c9 ?k9 ?a10 ?l10 ?c10 ?k10 ?a11 ?l11 ?c11 ?k11 ?a12 ?l12 ?c12 ?k12 ?a13 ?l13 ?c13 ?k13 ?a14 ?l14 ?c14 ?k14 ?a15 ?l15 ?c15 ?k15 ?a16 ?l16 ?c16 ?k16 ?a17 ?l17 ?c17 ?k17 ?a18 ?l18 ?c18 ?k18 ?a19 ?l19 ?c19 ?k19 ?a20 ?l20 ?c20 ?k20 ?a21 ?l21 ?c21 ?k21 ?a22 ?l22 ?c22 ?k22 ?a23 ?l23 ?c23 ?k23 ?a24 ?l24 ?c24 ?k24 ?a25 ?l25 ?c25 ?k25 ?a26 ?i26 ?l26 ?c26 ?k26 ?a27 ?g27 ?t27 ?r27 ?l27 ?c27 ?k27 ?a28 ?g28 ?t28 ?r28 ?l28 ?c28 ?k28 ?pg ?hd ?po ?sa ?mk ?kc ?n1 ?n2 ?n3 ?n4 ?xF ?kF ?bF ?tF ?iF ?sF ?z_int ?z_len ?z_list ?z_range ?z_sorted ?z_tuple ?z_isinstance ?z_str ?z_all ?z_zip ?z_set ?z_max ?z_min ?z_abs ?z_dict ?z_repr ?v_MAX_NAME ?v_MAX_SIGNS ?v_MAX_KIND ?v_MAX_WORD
    (case aC => k_is)
    (case aF => k_is)
    (case a0 => k_is)
    (case l0 => k_is)
    (case c0 => k_is)
    (case k0 => k_is)
    (case a1 => k_is)
    (case l1 => k_is)
    (case c1 => k_is)
    (case k1 => k_is)
    (case a2 => k_is)
    (case l2 => k_is)
    (case c2 => k_is)
    (case k2 => k_is)
    (case a3 => k_is)
    (case l3 => k_is)
    (case c3 => k_is)
    (case k3 => k_is)
    (case a4 => k_is)
    (case l4 => k_is)
    (case c4 => k_is)
    (case k4 => k_is)
    (case a5 => k_is)
    (case l5 => k_is)
    (case c5 => k_is)
    (case k5 => k_is)
    (case a6 => k_is)
    (case l6 => k_is)
    (case c6 => k_is)
    (case k6 => k_is)
    (case a7 => k_is)
    (case l7 => k_is)
    (case c7 => k_is)
    (case k7 => k_is)
    (case a8 => k_is)
    (case l8 => k_is)
    (case c8 => k_is)
    (case k8 => k_is)
    (case a9 => k_is)
    (case l9 => k_is)
    (case c9 => k_is)
    (case k9 => k_is)
    (case a10 => k_is)
    (case l10 => k_is)
    (case c10 => k_is)
    (case k10 => k_is)
    (case a11 => k_is)
    (case l11 => k_is)
    (case c11 => k_is)
    (case k11 => k_is)
    (case a12 => k_is)
    (case l12 => k_is)
    (case c12 => k_is)
    (case k12 => k_is)
    (case a13 => k_is)
    (case l13 => k_is)
    (case c13 => k_is)
    (case k13 => k_is)
    (case a14 => k_is)
    (case l14 => k_is)
    (case c14 => k_is)
    (case k14 => k_is)
    (case a15 => k_is)
    (case l15 => k_is)
    (case c15 => k_is)
    (case k15 => k_is)
    (case a16 => k_is)
    (case l16 => k_is)
    (case c16 => k_is)
    (case k16 => k_is)
    (case a17 => k_is)
    (case l17 => k_is)
    (case c17 => k_is)
    (case k17 => k_is)
    (case a18 => k_is)
    (case l18 => k_is)
    (case c18 => k_is)
    (case k18 => k_is)
    (case a19 => k_is)
    (case l19 => k_is)
    (case c19 => k_is)
    (case k19 => k_is)
    (case a20 => k_is)
    (case l20 => k_is)
    (case c20 => k_is)
    (case k20 => k_is)
    (case a21 => k_is)
    (case l21 => k_is)
    (case c21 => k_is)
    (case k21 => k_is)
    (case a22 => k_is)
    (case l22 => k_is)
    (case c22 => k_is)
    (case k22 => k_is)
    (case a23 => k_is)
    (case l23 => k_is)
    (case c23 => k_is)
    (case k23 => k_is)
    (case a24 => k_is)
    (case l24 => k_is)
    (case c24 => k_is)
    (case k24 => k_is)
    (case a25 => k_is)
    (case l25 => k_is)
    (case c25 => k_is)
    (case k25 => k_is)
    (case a26 => k_is)
    (case i26 => k_is)
    (case l26 => k_is)
    (case c26 => k_is)
    (case k26 => k_is)
    (case a27 => k_is)
    (case g27 => k_is)
    (case t27 => k_is)
    (case r27 => k_is)
    (case l27 => k_is)
    (case c27 => k_is)
    (case k27 => k_is)
    (case a28 => k_is)
    (case g28 => k_is)
    (case t28 => k_is)
    (case r28 => k_is)
    (case l28 => k_is)
    (case c28 => k_is)
    (case k28 => k_is)
    (case pg => k_is)
    (case hd => k_is)
    (case po => k_is)
    (case sa => k_is)
    (case mk => k_is)
    (case kc => k_is)
    (case n1 => k_is)
    (case n2 => k_is)
    (case n3 => k_is)
    (case n4 => k_is)
    (case xF => k_exc)
    (case kF => k_is)
    (case bF => k_is)
    (case tF => k_is)
    (case iF => k_is)
    (case sF => first | rfl | k_is)
    (case z_int => k_is)
    (case z_len => k_is)
    (case z_list => k_is)
    (case z_range => k_is)
    (case z_sorted => k_is)
    (case z_tuple => k_is)
    (case z_isinstance => k_is)
    (case z_str => k_is)
    (case z_all => k_is)
    (case z_zip => k_is)
    (case z_set => k_is)
    (case z_max => k_is)
    (case z_min => k_is)
    (case z_abs => k_is)
    (case z_dict => k_is)
    (case z_repr => k_is)
    (case v_MAX_NAME => k_is)
    (case v_MAX_SIGNS => k_is)
    (case v_MAX_KIND => k_is)
    (case v_MAX_WORD => k_is)
