import PyProof.Rows.All
import Wide.All
import OpenK.AllK
import Wide.FinOn
import HandS.Base
import HandS.Call
import HandS.List
import HandS.Comp
import HandS.Ends
import HandS.Words
import PyProof.StrBlock2
import HandS.ForMost
import HandS.ForExc
import HandS.TupAny
import HandS.StrMore
import HandS.IsInst
import HandS.Property
import HandS.Conv
import HandS.Style
import HandS.Wide
import HandS.Deep
import KE.KRevSl
import HandS.Walk
import PySem.Challenge.RW_fewersteps_k02_whole_histories_of_stream
import KE.GoesZip
import KE.GoesMore
import HandS.Strs
import HandS.DictComp
import HandS.WordsExc
import HandS.Exc
import HandS.ExcOwn
import HandS.TryOnly
import HandS.OwnEq
import KE.KCallOwn
import HandS.NoneIn
import HandS.FStr
import HandS.Zip
import HandS.Steps
import KE.KDictList
import HandS.More
import KE.KStrOpen
import KE.KDictZip
set_option Elab.async false
set_option linter.all false
set_option maxRecDepth 100000
set_option maxHeartbeats 8000000
/-! Promises of defs that are called only where no repr is under way: G. -/
namespace G
open PySem PySem.Spec PyProof.Rows L2
/-- where nothing that repr guards against is under way -/
def Quiet (A : Around) : Prop := A.guards = some []
/-- a def's promise where all is quiet -/
structure FnG (P : Program) (w : World) (K : PySem.W.Frag) (mg : Str → Option Value) (base : Heap) (CX : CXT) (k : Nat) (f : Addr) (fd : FuncData) (ps : List Str) (sp : Sp) : Prop where
  many : ∀ vs H Q E, sp vs H Q E → vs.length = ps.length
  go : ∀ (A : Around), Quiet A → Room k A → ∀ (outer : List Env) (s : Shared) (H : Hp), Env0 P w K mg base A outer s H →
    ∀ (args : Args) (us : List Value) (vs : List V), Vals vs us → BindsTo s fd args (ps.zip us) →
    ∀ (Q : VK) (E : XK), sp vs H Q E → codeAny (model P w) A (.call (.ref f) args) (CR CX outer P w H s Q E) s
section
variable {P : Program} {w : World} {K : PySem.W.Frag} {mg : Str → Option Value} {base : Heap} {CX : CXT} {k : Nat} {f : Addr} {fd : FuncData} {ps : List Str} {sp : Sp}
theorem quiet_deeper {A : Around} (h : Quiet A) (env : Env) : Quiet (A.deeper env) := h
/-- from the body's derivation to the promise -/
theorem of_body {x qual : Str} {st : Stmt} {N : List Str} (F : Fun K x qual st f fd) (S : FnScope N ps (defScope st)) (many : ∀ vs H Q E, sp vs H Q E → vs.length = ps.length)
    (body : ∀ (cdv : Value) (A : Around), Quiet A → ∀ (outer : List Env) (s : Shared) (H : Hp) (vs : List V) (Q : VK) (E : XK), Room k (A.deeper (envOfC qual (defScope st) s.heap.objs.size f cdv)) → sp vs H Q E →
      ∃ t, PSs (cxOf CX P w K mg base N qual (defScope st) f cdv A outer s H E) (defBody st) t ∧ t { nx := fun _ H1 => Q .non H1, rt := Q } (start N vs) H) :
    FnG P w K mg base CX (k + 1) f fd ps sp := by
  obtain ⟨oc, od, kV, doc, pm, an, cdv, ct, osl, rfl, look, code⟩ := F.ex
  refine ⟨many, ?_⟩
  intro A quiet room outer s H e args us vs rel bind Q E want
  have inK : K.In s.heap := e.mod.kin.keeps fun b o z => (e.bs b o z).1
  have noLim : s.heap.NoLimit := e.mod.nolimit.keeps fun b o z => (e.bs b o z).1
  have kinds : ∀ y ∈ ps.zip us, (defScope st).names.lookup y.1 = some .local ∨
      ((defScope st).names.lookup y.1 = some .cell ∧ ((cellsFrom (s.heap.objs.size + 1) (defScope st).names []).lookup y.1).isSome = true) := by
    rintro ⟨n, v⟩ mem
    cases S.par n (List.of_mem_zip mem).1 with
    | inl z => exact .inl z
    | inr z => exact .inr ⟨z, PySem.W.cellsFrom_some _ _ _ (.inl z)⟩
  refine codeAny_call_function room.depth (inK _ _ look) rfl S.co S.gen rfl
    (PySem.W.codeRec_of inK code) (bind _ _ _ _ ?_)
  refine wpAny_newFunctionEnv_cells S.kind kinds ?_
  intro env he s1 x
  subst he
  refine ⟨noLim.keeps x.toInCall.keep, codeAny_func ?_⟩
  obtain ⟨t, der, want2⟩ := body cdv A quiet outer s H vs Q E (room.deeper _) want
  have J : Inv (cxOf CX P w K mg base N qual (defScope st) f cdv A outer s H E) [] (start N vs) H s1 :=
    inv_start S room.hd e (many _ _ _ _ want) rel x
  refine wpAny_mono (der.run [] s1 (start N vs) H _ J want2) ?_ (fun _ _ z => z)
  intro fl s2 done
  cases fl with
  | brk =>
    obtain ⟨_, _, _, no⟩ := done
    exact False.elim no
  | cont =>
    obtain ⟨_, _, _, no⟩ := done
    exact False.elim no
  | next =>
    obtain ⟨σ1, H1, J1, q⟩ := done
    exact ⟨.non, H1, J1.os, J1.bare, J1.base, J1.hok, rfl, q⟩
  | ret u =>
    obtain ⟨v, σ1, H1, J1, rv, q⟩ := done
    exact ⟨v, H1, J1.os, J1.bare, J1.base, J1.hok, rv, q⟩
end
section
variable {X : Cx} {CX : CXT} {k : Nat} {f : Addr} {fd : FuncData} {ps : List Str} {sp : Sp} {E : XK} {x : Str} {p pos : Pos} {e : Expr} {es : List Expr} {t : TA}
/-- f(e, ..) of such a def, where all is quiet -/
theorem pe_callG (F : FnG X.prog X.w X.K X.mg X.base CX k f fd ps sp) (quiet : Quiet X.A) (room : Room k X.A) (hg : Gl X x) (hm : X.mg x = some (.ref f)) (kp : PySem.W.keepIn X.K (.ref f) = true)
    (bind : Binds X.K fd ps []) (pass : Passes CX X E) (ha : PA X (e :: es) t) (hdb : (x == ("__debug__" : Str)) = false := by decide)
    (st : starEach (e :: es) X.env = (false, eval e X.env) :: starEach es X.env := by rfl) (pl : (backTo pos (starEach es X.env)).any (·.1) = false := by rfl) :
    PE X (.Call (.Name x p) (e :: es) [] pos) (tCall sp [] E t) := by
  refine ⟨?_⟩
  intro pins s σ H Q I want
  refine wpAny_Call_Name_kw (ld_glob I hg hm ?_ hdb)
  refine PySem.W.callWith_K (h₀ := X.base) I.ok.mod.kin kp
    (thn (ha.run pos pins s σ H _ I want) ?_) st pl
  rintro us s1 ⟨vs, H1, I1, r, q⟩
  refine ⟨I1.kIn, ?_⟩
  rw [List.append_nil] at q
  have many : (us ++ []).length = ps.length := by
    rw [List.append_nil, ← r.length]
    exact F.many _ _ _ _ q
  have bd := bind s1 us I1.kIn many
  rw [List.append_nil] at bd
  refine wpAny_call (codeAny_mono (F.go X.A quiet room X.stack s1 H1 I1.env0 ⟨us, []⟩ us vs r bd Q E q) ?_)
  intro res s2 done
  cases res with
  | error er => exact pass pins σ H1 s1 er s2 I1 done
  | ok fl =>
    cases fl with
    | ret u => exact I1.after done
    | next => exact False.elim done
    | brk => exact False.elim done
    | cont => exact False.elim done
end
/-! ### the end: the law's own call -/
/-- the script, as the law's def finds it: known to the module's part, or a locked list -/
theorem law_call {P : Program} {w : World} {K : PySem.W.Frag} {mg mb : Str → Option Value} {CX : CXT} {k : Nat} {fa a : Addr} {fd : FuncData} {x : Str} {sp : Sp} {s : Shared} {vs : List Value} {ns : List Int}
    (inK : K.In s.heap) (glob : s.heap.Ns mainGlobals mg) (blt : s.heap.Ns builtinsNs mb) (same : ∀ y : Str, y ≠ "__name__" → mb y = bootBuiltins y) (noLim : s.heap.NoLimit) (gens : s.gens = #[])
    (at_a : s.heap.get? a = some { cls := .type "list", data := .seq vs.toArray }) (areInts : IntsAre vs ns) (short : ns.length ≤ sizeLine) (room : Room k callerA)
    (F : ∀ b : Heap, K.In b → b.Ns mainGlobals mg → FnG P w K mg b CX k fa fd [x] sp) (bind : ∀ (t : Shared) (u : Value), BindsTo t fd ⟨[u], []⟩ [(x, u)])
    (want : ∀ H : Hp, Only H → SqL K H a (ns.map V.int) → sp [.ref a] H (fun v _ => v = .bl true) (fun _ _ _ => False))
    (noExc : ∀ H e t, CX [] H s (fun _ _ _ => False) e t → False) :
    codeAny (model P w) callerA (.call (.ref fa) ⟨[.ref a], []⟩) (fun r t => r = .ok (.ret (.bool true)) ∧ OldK s.heap t.heap ∧ t.os = s.os ∧ AllBare t.gens) s := by
  have rel := vals_ints areInts
  have main : ∀ H : Hp, Only H → (∀ b, H b ≠ none → b = a ∧ K.lookup a = none) → HOk P w H s.heap → SqL K H a (ns.map V.int) →
      codeAny (model P w) callerA (.call (.ref fa) ⟨[.ref a], []⟩) (fun r t => r = .ok (.ret (.bool true)) ∧ OldK s.heap t.heap ∧ t.os = s.os ∧ AllBare t.gens) s := by
    intro H only there ok seq
    have isNone : ∀ b, (b = a → K.lookup a ≠ none) → H b = none := fun b z => Classical.byContradiction fun n => z (there b n).1 (there b n).2
    have dictNone : ∀ (b : Addr) (o : Obj) (es : Array DictEntry) (ep : Nat), s.heap.get? b = some o → o.data = .dict es ep → H b = none := by
      intro b o es ep e1 e2
      refine Classical.byContradiction fun n => ?_
      rw [(there b n).1, at_a] at e1
      rw [← Option.some.inj e1] at e2
      cases e2
    have nsH : ∀ (b : Addr) (m : Str → Option Value), s.heap.Ns b m → (hidT s.heap H).Ns b m := by
      rintro b m ⟨o, es, ep, e1, e2, r⟩
      exact ⟨o, es, ep, hidT_get e1 (dictNone b o es ep e1 e2), e2, r⟩
    have inB : K.In (hidT s.heap H) := by
      intro b o e1
      refine hidT_get (inK b o e1) (isNone b ?_)
      intro eb n
      rw [← eb, e1] at n
      cases n
    have lim : (hidT s.heap H).NoLimit := by
      obtain ⟨mc, h1, h2⟩ := noLim
      exact ⟨mc, nsH _ _ h1, h2⟩
    have env : Env0 P w K mg (hidT s.heap H) callerA [] s H :=
      { frames := rfl, mod := ⟨inB, nsH _ _ glob, ⟨mb, nsH _ _ blt, same⟩, lim⟩, bs := fun b o z => of_hidT z, bsz := Nat.le_of_eq (hidT_size _ _), funs := trivial,
        frf := fun b z => absurd (show b ∈ ([] : List Addr) from z) List.not_mem_nil, hok := ok, bare := .of_eq gens }
    refine codeAny_mono ((F _ inB (nsH _ _ glob)).go callerA rfl room [] s H env ⟨[.ref a], []⟩ [.ref a] [.ref a] (.cons rfl .nil) (bind s (.ref a)) _ _ (want H only seq)) ?_
    intro r t done
    cases r with
    | error e => exact (noExc H e t done).elim
    | ok fl =>
      cases fl with
      | next => exact False.elim done
      | brk => exact False.elim done
      | cont => exact False.elim done
      | ret u =>
        obtain ⟨v, H1, os, bare, un, ok1, ru, q⟩ := done
        have q1 : v = .bl true := q
        rw [q1] at ru
        have eu : u = Value.bool true := ru
        rw [eu]
        refine ⟨rfl, OldK.of_keep ?_, os, bare⟩
        intro b o e1
        cases hb : H b with
        | none => exact un.keep b o e1 hb (fun z => absurd (show b ∈ ([] : List Addr) from z) List.not_mem_nil) List.not_mem_nil
        | some u1 =>
          rcases only b with z | ⟨ob, ys, z⟩
          · rw [hb] at z
            cases z
          · obtain ⟨g1, _⟩ := ok b _ z
            obtain ⟨g2, _⟩ := ok1 b _ (un.frzs b ob _ z)
            rw [e1] at g1
            rw [Option.some.inj g1]
            exact g2
  have few : (ns.map V.int).length ≤ sizeLine := by
    rw [List.length_map]
    exact short
  have manyV : vs.toArray.size ≤ sizeLine := by
    rw [List.size_toArray, areInts.length]
    exact short
  cases look : K.lookup a with
  | some o =>
    have e1 := inK a o look
    rw [at_a] at e1
    have e2 := Option.some.inj e1
    rw [← e2] at look
    refine main (fun _ => none) (fun _ => .inl rfl) (fun b z => absurd rfl z) (fun b u z => nomatch (show (none : Option HO) = some u from z)) ?_
    exact .inr ⟨_, vs.toArray, _, look, rfl, rfl, rfl, manyV, rel⟩
  | none =>
    have at1 : ∀ b, (fun b => if b = a then some (HO.frz { cls := .type "list", data := .seq vs.toArray } (.lst (ns.map V.int))) else none) b ≠ none → b = a := by
      intro b z
      refine Classical.byContradiction fun n => z ?_
      show (if b = a then _ else none) = none
      rw [if_neg n]
    refine main _ (fun b => ?_) (fun b z => ⟨at1 b z, look⟩) ?_ (.inl (.inr ⟨{ cls := .type "list", data := .seq vs.toArray }, if_pos rfl⟩))
    · by_cases hb : b = a
      · exact .inr ⟨_, _, if_pos hb⟩
      · exact .inl (if_neg hb)
    · intro b u z
      have hb : b = a := at1 b (by rw [z]; exact fun n => nomatch n)
      rw [hb] at z ⊢
      have z2 := (if_pos rfl).symm.trans z
      have z3 := Option.some.inj z2
      rw [← z3]
      exact ⟨at_a, few, vs, _, rel, at_a⟩
/-- what k_head leaves, from the law's promise where all is quiet -/
theorem walk {l : PySem.W.OpenLaw} {n k : Nat} {q : Program} {loose : List Str} {XP : (Str → Option Value) → Heap → Prop} {YP : World → Heap → Prop} {d : DefRec} {K : Params → PySem.W.Frag} {CX : World → CXT} {sp : World → Sp} {x : Str}
    (most : l.most = some n) (small : n ≤ sizeLine) (noDef : d.params.defaults = []) (room : Room k callerA)
    (inK : ∀ (w : World) (h : Heap), YP w h → (K w.params).In h)
    (F : ∀ (w : World) (mg : Str → Option Value) (fa : Addr) (h : Heap), (K w.params).In h → h.Ns mainGlobals mg → mg d.name = some (.ref fa) →
      ∃ fd : FuncData, (∀ (s : Shared) (u : Value), BindsTo s fd ⟨[u], []⟩ [(x, u)]) ∧
        ∀ b : Heap, (K w.params).In b → b.Ns mainGlobals mg → FnG l.prog w (K w.params) mg b (CX w) k fa fd [x] (sp w))
    (want : ∀ (w : World) (H : Hp) (a : Addr) (ns : List Int), ns.length ≤ n → Only H → SqL (K w.params) H a (ns.map V.int) → sp w [.ref a] H (fun v _ => v = .bl true) (fun _ _ _ => False))
    (noExc : ∀ (w : World) (H : Hp) (s : Shared) (e : Value) (t : Shared), CX w [] H s (fun _ _ _ => False) e t → False) :
    PySem.W.WalkO q loose XP YP l.row.toRowW d [] (fun f vs => PySem.call f vs) := by
  refine Att.attach_call most noDef ?_
  intro w s0 s1 mg mb fa o pm cd doc a vs ns G Y ho hd hcd hmg hobj hints hlen hg
  obtain ⟨fd, bd, ok⟩ := F w mg fa _ (inK w _ Y) G.T.g hmg
  exact _root_.G.law_call (inK w _ Y) G.T.g G.T.b G.T.builtins G.T.nolimit hg hobj hints (Nat.le_trans hlen small) room ok bd
    (fun H h1 h2 => want w H a ns hlen h1 h2) (fun H e t => noExc w H s1 e t)
end G
/-! Readings by cases of the values, and the steps through readings. -/
namespace Z
open PySem PySem.Spec PyProof.Rows L2 G
/-! ### operators by cases -/
def rAdd (K : PySem.W.Frag) : R2 := fun x y H Q => match x, y with
  | .int i, .int j => Q (.int (i + j)) H
  | .str a, .str b => a.length + b.length ≤ sizeLine ∧ Q (.str (a ++ b)) H
  | .ref a, .ref b => rCat (.ref a) (.ref b) H Q ∨ rCatA K (.ref a) (.ref b) H Q
  | _, _ => False
theorem op_add {X : Cx} : OpR X (binaryOp .Add) (rAdd X.K) := by
  intro pins s σ H x y v u Q I rx ry h
  cases x <;> cases y <;> first
    | exact False.elim h
    | exact L2.op_add pins s σ H _ _ v u Q I rx ry ⟨_, _, rfl, rfl, h⟩
    | exact L2.op_add_str pins s σ H _ _ v u Q I rx ry ⟨_, _, rfl, rfl, h⟩
    | (rcases h with h | h
       · exact op_cat pins s σ H _ _ v u Q I rx ry h
       · exact op_catA pins s σ H _ _ v u Q I rx ry h)
def rSub : R2 := fun x y H Q => match x, y with
  | .int i, .int j => Q (.int (i - j)) H
  | _, _ => False
theorem op_sub {X : Cx} : OpR X (binaryOp .Sub) rSub := by
  intro pins s σ H x y v u Q I rx ry h
  cases x <;> cases y <;> first
    | exact False.elim h
    | exact L2.op_sub pins s σ H _ _ v u Q I rx ry ⟨_, _, rfl, rfl, h⟩
/-- ints; a text some times; a list some times -/
def rMul : R2 := fun x y H Q => match x, y with
  | .int i, .int j => (CMul i j ∨ CMulW i j) ∧ Q (.int (i * j)) H
  | .str a, .int n => MulOk a n ∧ Q (.str (Txt.mul a n)) H
  | .ref a, .int n => rRep (.ref a) (.int n) H Q
  | _, _ => False
theorem op_mul {X : Cx} : OpR X (binaryOp .Mult) rMul := by
  intro pins s σ H x y v u Q I rx ry h
  cases x <;> cases y <;> first
    | exact False.elim h
    | exact op_rep pins s σ H (.ref _) (.int _) v u Q I rx ry h
    | (rcases h with ⟨h | h, q⟩
       · exact L2.op_mul pins s σ H _ _ v u Q I rx ry ⟨_, _, rfl, rfl, h, q⟩
       · exact op_mulW pins s σ H _ _ v u Q I rx ry ⟨_, _, rfl, rfl, h, q⟩)
    | (obtain ⟨ok, q⟩ := h
       obtain ⟨t, rfl⟩ := rx
       obtain ⟨t', rfl⟩ := ry
       exact PySem.SB.mul ok fun t' k => ⟨.str _, H, I.tok _, ⟨_, rfl⟩, q⟩)
/-- // by a number above 0 and below 2 ^ 30, % by one above 0 -/
def rDiv : R2 := fun x y H Q => match x, y with
  | .int i, .int j => (0 < j ∧ j < 1073741824) ∧ Q (.int (i / j)) H
  | _, _ => False
theorem op_div {X : Cx} : OpR X (binaryOp .FloorDiv) rDiv := by
  intro pins s σ H x y v u Q I rx ry h
  cases x <;> cases y <;> first
    | exact False.elim h
    | exact L2.op_fdiv pins s σ H _ _ v u Q I rx ry ⟨_, _, rfl, rfl, h.1, h.2⟩
def rMod : R2 := fun x y H Q => match x, y with
  | .int i, .int j => 0 < j ∧ Q (.int (i % j)) H
  | _, _ => False
theorem op_mod {X : Cx} : OpR X (binaryOp .Mod) rMod := by
  intro pins s σ H x y v u Q I rx ry h
  cases x <;> cases y <;> first
    | exact False.elim h
    | exact L2.op_mod pins s σ H _ _ v u Q I rx ry ⟨_, _, rfl, rfl, h.1, h.2⟩
def rPow : R2 := fun x y H Q => match x, y with
  | .int i, .int j => (0 ≤ j ∧ (Builtin.Int.intBits i : Int) * j ≤ 2 ^ 27) ∧ Q (.int (i ^ j.toNat)) H
  | _, _ => False
theorem op_pow {X : Cx} : OpR X (binaryOp .Pow) rPow := by
  intro pins s σ H x y v u Q I rx ry h
  cases x <;> cases y <;> first
    | exact False.elim h
    | (obtain ⟨⟨h1, h2⟩, q⟩ := h
       obtain ⟨t, rfl⟩ := rx
       obtain ⟨t', rfl⟩ := ry
       exact pow_int h1 h2 ⟨.int _, H, I.tok _, ⟨_, rfl⟩, q⟩)
/-! ### comparisons by cases -/
def rEq (K : PySem.W.Frag) : R2 := fun x y H Q => (scal x y = true ∧ Q (.bl (decide (x = y))) H) ∨ rEqD K x y H Q
def rNe (K : PySem.W.Frag) : R2 := fun x y H Q => (scal x y = true ∧ Q (.bl (!decide (x = y))) H) ∨ rNeD K x y H Q
theorem op_eq {X : Cx} (hu : X.A.units + 64 < cLine) : OpR X (compareOp .Eq) (rEq X.K) := by
  intro pins s σ H x y v u Q I rx ry h
  rcases h with h | h
  · exact L2.op_eq pins s σ H x y v u Q I rx ry h
  · exact op_eqD hu pins s σ H x y v u Q I rx ry h
theorem op_ne {X : Cx} (hu : X.A.units + 64 < cLine) : OpR X (compareOp .NotEq) (rNe X.K) := by
  intro pins s σ H x y v u Q I rx ry h
  rcases h with h | h
  · exact L2.op_ne pins s σ H x y v u Q I rx ry h
  · exact op_neD hu pins s σ H x y v u Q I rx ry h
def rLt : R2 := fun x y H Q => match x, y with
  | .int i, .int j => Q (.bl (decide (i < j))) H
  | .str a, .str b => Q (.bl (decide (a.cps.toList < b.cps.toList))) H
  | _, _ => False
def rLe : R2 := fun x y H Q => match x, y with
  | .int i, .int j => Q (.bl (decide (i ≤ j))) H
  | .str a, .str b => Q (.bl (!decide (b.cps.toList < a.cps.toList))) H
  | _, _ => False
def rGt : R2 := fun x y H Q => match x, y with
  | .int i, .int j => Q (.bl (decide (j < i))) H
  | .str a, .str b => Q (.bl (decide (b.cps.toList < a.cps.toList))) H
  | _, _ => False
def rGe : R2 := fun x y H Q => match x, y with
  | .int i, .int j => Q (.bl (decide (j ≤ i))) H
  | .str a, .str b => Q (.bl (!decide (a.cps.toList < b.cps.toList))) H
  | _, _ => False
theorem op_lt {X : Cx} : OpR X (compareOp .Lt) rLt := by
  intro pins s σ H x y v u Q I rx ry h
  cases x <;> cases y <;> first
    | exact False.elim h
    | exact L2.op_lt pins s σ H _ _ v u Q I rx ry ⟨_, _, rfl, rfl, h⟩
    | exact L2.op_lt_str pins s σ H _ _ v u Q I rx ry ⟨_, _, rfl, rfl, h⟩
theorem op_le {X : Cx} : OpR X (compareOp .LtE) rLe := by
  intro pins s σ H x y v u Q I rx ry h
  cases x <;> cases y <;> first
    | exact False.elim h
    | exact L2.op_le pins s σ H _ _ v u Q I rx ry ⟨_, _, rfl, rfl, h⟩
    | exact L2.op_le_str pins s σ H _ _ v u Q I rx ry ⟨_, _, rfl, rfl, h⟩
theorem op_gt {X : Cx} : OpR X (compareOp .Gt) rGt := by
  intro pins s σ H x y v u Q I rx ry h
  cases x <;> cases y <;> first
    | exact False.elim h
    | exact L2.op_gt pins s σ H _ _ v u Q I rx ry ⟨_, _, rfl, rfl, h⟩
    | exact L2.op_gt_str pins s σ H _ _ v u Q I rx ry ⟨_, _, rfl, rfl, h⟩
theorem op_ge {X : Cx} : OpR X (compareOp .GtE) rGe := by
  intro pins s σ H x y v u Q I rx ry h
  cases x <;> cases y <;> first
    | exact False.elim h
    | exact L2.op_ge pins s σ H _ _ v u Q I rx ry ⟨_, _, rfl, rfl, h⟩
    | exact L2.op_ge_str pins s σ H _ _ v u Q I rx ry ⟨_, _, rfl, rfl, h⟩
def rIsN : R2 := fun x y H Q => match y with
  | .non => Q (.bl (decide (x = .non))) H
  | _ => False
def rNotN : R2 := fun x y H Q => match y with
  | .non => Q (.bl (!decide (x = .non))) H
  | _ => False
theorem op_isN {X : Cx} : OpR X (compareOp .Is) rIsN := by
  intro pins s σ H x y v u Q I rx ry h
  cases y <;> first
    | exact False.elim h
    | exact L2.op_isN pins s σ H _ _ v u Q I rx ry ⟨rfl, h⟩
theorem op_notN {X : Cx} : OpR X (compareOp .IsNot) rNotN := by
  intro pins s σ H x y v u Q I rx ry h
  cases y <;> first
    | exact False.elim h
    | exact L2.op_notN pins s σ H _ _ v u Q I rx ry ⟨rfl, h⟩
/-- in, not in a list or a tuple of flat things -/
theorem op_in {X : Cx} : OpR X (compareOp .In) (rIn X.K false) := op_in_seq
theorem op_notIn {X : Cx} : OpR X (compareOp .NotIn) (rIn X.K true) := op_notIn_seq
/-! ### len, items, slices -/
def rLen (K : PySem.W.Frag) : List V → Hp → VK → Prop := fun vs H Q => match vs with
  | [.str z] => z.length ≤ sizeLine ∧ Q (.int (z.length : Nat)) H
  | [.ref p] => (∃ xs, (SqL K H p xs ∨ SqT K H p xs) ∧ Q (.int (xs.length : Nat)) H) ∨ ∃ kvs, H p = some (.dK kvs) ∧ Q (.int (kvs.length : Nat)) H
  | _ => False
theorem call_len {X : Cx} : CallR X (.builtin "len") (rLen X.K) := by
  intro pins s σ H xs us Q I r h
  match xs, h with
  | [.str z], h => exact call_len_str pins s σ H _ us Q I r ⟨_, rfl, h.1, h.2⟩
  | [.ref p], h =>
    rcases h with ⟨ys, h1, h2⟩ | ⟨kvs, h1, h2⟩
    · exact call_len_seq pins s σ H _ us Q I r ⟨_, _, rfl, h1, h2⟩
    · exact call_lenD pins s σ H _ us Q I r ⟨_, _, rfl, h1, h2⟩
def rItem (K : PySem.W.Frag) : R2 := fun x y H Q => match x, y with
  | .str z, .int i => z.length ≤ sizeLine ∧ ∃ c, atI z.cps.toList i = some c ∧ Q (.str ⟨#[c]⟩) H
  | .ref p, .int i => ∃ xs v, (SqL K H p xs ∨ SqT K H p xs) ∧ atI xs i = some v ∧ Q v H
  | _, _ => False
theorem ix_item {X : Cx} : IxR X (rItem X.K) := by
  intro value slice pins s σ H x y v u Q I rx ry h hs
  cases x <;> cases y <;> first
    | exact False.elim h
    | (obtain ⟨h1, c, h2, h3⟩ := h
       exact ix_str value slice pins s σ H _ _ v u Q I rx ry ⟨_, _, _, rfl, rfl, h1, h2, h3⟩ hs)
    | (obtain ⟨xs, w, h1 | h1, h2, h3⟩ := h
       · exact ix_list value slice pins s σ H _ _ v u Q I rx ry ⟨_, _, _, _, rfl, rfl, h1, h2, h3⟩ hs
       · exact ix_tup value slice pins s σ H _ _ v u Q I rx ry ⟨_, _, _, _, rfl, rfl, h1, h2, h3⟩ hs)
def rCut (K : PySem.W.Frag) : V → Option Int → Option Int → Hp → VK → Prop := fun x lo hi H Q => match x with
  | .str z => z.length ≤ sizeLine ∧ Q (.str (cutS z lo hi)) H
  | .ref p => rSlL K (.ref p) lo hi H Q ∨ rSlA K (.ref p) lo hi H Q
  | _ => False
theorem sl_cut {X : Cx} : SlR X (rCut X.K) := by
  intro pins s σ H x v vl vu lo hi sl Q I rx hs pl pu h
  cases x <;> first
    | exact False.elim h
    | exact sl_str pins s σ H _ v vl vu lo hi sl Q I rx hs pl pu ⟨_, rfl, h.1, h.2⟩
    | (rcases h with h | h
       · exact sl_list pins s σ H _ v vl vu lo hi sl Q I rx hs pl pu h
       · exact sl_tupA pins s σ H _ v vl vu lo hi sl Q I rx hs pl pu h)
theorem revIx (n : Nat) : Builtin.Str.strSliceIndices none none (-1) n = (List.range n).map fun k => n - 1 - k := by
  unfold Builtin.Str.strSliceIndices
  have h1 : ¬ ((-1 : Int) > 0) := by decide
  simp only [h1, if_false]
  exact PySem.W.krv_sliceRange n
theorem rev_len (z : Str) : ((Builtin.Str.strSliceIndices none none (-1) z.length).filterMap (z.cps[·]?)).length ≤ z.length := by
  refine Nat.le_trans (List.length_filterMap_le _ _) ?_
  rw [revIx, List.length_map, List.length_range]
  exact Nat.le_refl _
theorem rev_mem (z : Str) (l : List Nat) (c : Nat) (h : c ∈ l.filterMap (z.cps[·]?)) : c ∈ z.cps.toList := by
  obtain ⟨k, _, e⟩ := List.mem_filterMap.mp h
  rw [← Array.getElem?_toList] at e
  exact List.mem_of_getElem? e
/-- z[::-1]: the signs of z, as many -/
def tRevS (te : TE) : TE := fun σ H Q => te σ H fun x H1 => ∃ z : Str, x = .str z ∧ z.length ≤ sizeLine ∧ ∀ y : Str, y.length ≤ z.length → (∀ c ∈ y.cps.toList, c ∈ z.cps.toList) → Q (.str y) H1
theorem pe_revS {X : Cx} {e : Expr} {te : TE} {k : Nat} {p1 p2 p3 pos : Pos} (he : PE X e te) : PE X (.Subscript e (.Slice none none (some (.UnaryOp .USub (.Constant (.int 1) k p1) p2)) p3) pos) (tRevS te) := by
  refine ⟨?_⟩
  intro pins s σ H Q I want
  refine Subscript_ (thn (he.run pins s σ H _ I want) ?_)
  rintro v s1 ⟨x, H1, I1, rx, z, ex, hz, q⟩
  subst ex
  obtain ⟨t, rfl⟩ := rx
  have part : PO X (some (.UnaryOp .USub (.Constant (.int 1) k p1) p2)) (tPart (tUn (rU fun i => .int (-i)) (tC (.int 1)))) :=
    po_some (pe_un un_neg pe_int)
  refine wpAny_Slice (thn (po_none.run pins s1 σ H1 (fun o H2 => o = none ∧ H2 = H1) I1 ⟨rfl, rfl⟩) ?_)
  rintro vl s2 ⟨l, H2, I2, pl, el, e2⟩
  subst el e2
  refine thn (po_none.run pins s2 σ H2 (fun o H3 => o = none ∧ H3 = H2) I2 ⟨rfl, rfl⟩) ?_
  rintro vu s3 ⟨u, H3, I3, pu, eu, e3⟩
  subst eu e3
  refine thn (part.run pins s3 σ H3 (fun o H4 => o = some (-1) ∧ H4 = H3) I3 ⟨1, rfl, -1, rfl, rfl, rfl⟩) ?_
  rintro vs s4 ⟨o, H4, I4, ps, eo, e4⟩
  subst eo e4
  have I5 : Inv X pins σ H4 { s4 with heap := s4.heap.push { cls := .type "slice", data := .fields #[vl, vu, vs] } } :=
    I4.kept (t' := s4.toks) fun b ob q => Heap.get?_push_of_some _ q
  obtain ⟨l, rfl, hl⟩ := IsPart.raw pl
  obtain ⟨u, rfl, hu⟩ := IsPart.raw pu
  obtain ⟨st, rfl, hst⟩ := IsPart.raw ps
  have sl := Heap.IsSliceOf.new s4.heap (partValue l) (partValue u) (partValue st)
  refine tail_any (ops := [.str z t, .ref s4.heap.objs.size]) (typeIs_str _ _ _) (PySem.F.slot_str_getitem.lookup) ?_ (by with_unfolding_all rfl)
  refine wpAny_getItem_str_slice (l := l) (u := u) (st := st) ?_ ?_ ?_
  · obtain ⟨o, h1, h2, h3⟩ := sl
    exact ⟨o, h1, h2, h3⟩
  · rw [hst]
    rfl
  · have pk : slicePicked z l u st = Builtin.Str.strSliceIndices none none (-1) z.length := by
      unfold slicePicked
      rw [hl, hu, hst]
      rfl
    unfold sliceMade
    rw [pk]
    by_cases c : ((st.map (·.1)).getD 1 == 1 && (Builtin.Str.strSliceIndices none none (-1) z.length).length == z.length) = true
    · rw [if_pos c]
      exact ⟨.str z, H4, I5, ⟨t, rfl⟩, q z (Nat.le_refl _) fun _ m => m⟩
    · rw [if_neg c]
      refine ⟨Nat.le_trans (rev_len z) hz, .str _, H4, I5.tok _, ⟨_, rfl⟩, q _ (rev_len z) fun c m => rev_mem z _ c m⟩
/-! ### calls of builtins by cases -/
def rInt : List V → Hp → VK → Prop := fun vs H Q => match vs with
  | [.int i] => Q (.int i) H
  | [.bl k] => Q (.int (if k then 1 else 0)) H
  | _ => False
theorem call_int {X : Cx} : CallR X (.type "int") rInt := by
  intro pins s σ H xs us Q I r h
  match xs, h with
  | [.int i], h => exact call_int1 pins s σ H _ us Q I r (.inl ⟨_, rfl, h⟩)
  | [.bl k], h => exact call_int1 pins s σ H _ us Q I r (.inr ⟨_, rfl, h⟩)
def rAbs : List V → Hp → VK → Prop := fun vs H Q => match vs with
  | [.int i] => Q (.int (if i < 0 then -i else i)) H
  | _ => False
theorem call_abs {X : Cx} : CallR X (.builtin "abs") rAbs := by
  intro pins s σ H xs us Q I r h
  match xs, h with
  | [.int i], h => exact L2.call_abs pins s σ H _ us Q I r ⟨_, rfl, h⟩
def rMax : List V → Hp → VK → Prop := fun vs H Q => match vs with
  | [.int i, .int j] => Q (.int (if j > i then j else i)) H
  | _ => False
theorem call_max {X : Cx} (hc : X.calm = true) : CallR X (.builtin "max") rMax := by
  intro pins s σ H xs us Q I r h
  match xs, h with
  | [.int i, .int j], h => exact call_max2 hc pins s σ H _ us Q I r ⟨_, _, rfl, h⟩
def rMin : List V → Hp → VK → Prop := fun vs H Q => match vs with
  | [.int i, .int j] => Q (.int (if j < i then j else i)) H
  | _ => False
theorem call_min {X : Cx} (hc : X.calm = true) : CallR X (.builtin "min") rMin := by
  intro pins s σ H xs us Q I r h
  match xs, h with
  | [.int i, .int j], h => exact call_min2 hc pins s σ H _ us Q I r ⟨_, _, rfl, h⟩
/-- list(xs) of a list or a tuple -/
def rList (K : PySem.W.Frag) : List V → Hp → VK → Prop := fun vs H Q => match vs with
  | [.ref p] => ∃ ys, (SqL K H p ys ∨ SqT K H p ys) ∧ ∀ l, H l = none → Q (.ref l) (upd H l (.lst ys))
  | _ => False
theorem call_list {X : Cx} : CallR X (.type "list") (rList X.K) := by
  intro pins s σ H xs us Q I r h
  match xs, h with
  | [.ref p], ⟨ys, h1, h2⟩ => exact call_list_of pins s σ H _ us Q I r ⟨_, _, rfl, h1, h2⟩
/-- tuple(xs) of a list or a tuple -/
def rTuple (K : PySem.W.Frag) : List V → Hp → VK → Prop := fun vs H Q => match vs with
  | [.ref p] => ∃ ys, (SqL K H p ys ∧ ∀ l, H l = none → Q (.ref l) (upd H l (.tup ys))) ∨ (SqT K H p ys ∧ Q (.ref p) H)
  | _ => False
theorem call_tuple {X : Cx} : CallR X (.type "tuple") (rTuple X.K) := by
  intro pins s σ H xs us Q I r h
  match xs, h with
  | [.ref p], ⟨ys, h1⟩ => exact call_tuple_of pins s σ H _ us Q I r ⟨_, _, rfl, h1⟩
/-- all(xs) of a list of truths -/
def rAll (K : PySem.W.Frag) : List V → Hp → VK → Prop := fun vs H Q => match vs with
  | [.ref p] => ∃ bs : List Bool, SqL K H p (bs.map V.bl) ∧ Q (.bl (bs.all id)) H
  | _ => False
theorem call_all {X : Cx} (hc : X.calm = true) : CallR X (.builtin "all") (rAll X.K) := by
  intro pins s σ H xs us Q I r h
  match xs, h with
  | [.ref p], ⟨bs, h1, h2⟩ => exact cr_all hc pins s σ H _ us Q I r ⟨_, _, rfl, h1, h2⟩
/-- isinstance(x, T), T a built-in class -/
def rIs (K : PySem.W.Frag) : List V → Hp → VK → Prop := fun vs H Q => match vs with
  | [x, .ty n] => ∃ t b, TyX K H x t ∧ PySem.W.kitOne K t (.type n) = some b ∧ Q (.bl b) H
  | [x, .ref C] => ∃ t b, TyX K H x t ∧ PySem.W.kitOne K t (.ref C) = some b ∧ Q (.bl b) H
  | _ => False
theorem call_is {X : Cx} : CallR X (.builtin "isinstance") (rIs X.K) := by
  intro pins s σ H xs us Q I r h
  match xs, h with
  | [x, .ty n], ⟨t, b, h1, h2, h3⟩ => exact call_isi pins s σ H _ us Q I r ⟨x, _, t, _, b, rfl, .ty n, h1, h2, h3⟩
  | [x, .ref C], ⟨t, b, h1, h2, h3⟩ => exact call_isi pins s σ H _ us Q I r ⟨x, _, t, _, b, rfl, .own C, h1, h2, h3⟩
/-- list(z), z a text: its signs -/
def signsV (z : Str) : List V := z.cps.toList.map fun c => V.str ⟨#[c]⟩
def rListS : List V → Hp → VK → Prop := fun vs H Q => match vs with
  | [.str z] => z.length ≤ sizeLine ∧ ∀ l, H l = none → Q (.ref l) (upd H l (.lst (signsV z)))
  | _ => False
theorem vals_signs : ∀ (l : List Nat) (us : List Value), us.length = l.length → (∀ (i : Nat) (c : Nat) (u : Value), l[i]? = some c → us[i]? = some u → ∃ t, u = Value.str ⟨#[c]⟩ t) → Vals (l.map fun c => V.str ⟨#[c]⟩) us
  | [], [], _, _ => .nil
  | c :: l, u :: us, hl, h => by
    obtain ⟨t, e⟩ := h 0 c u rfl rfl
    refine .cons ⟨t, e⟩ (vals_signs l us (by simpa using hl) fun i d v h1 h2 => ?_)
    exact h (i + 1) d v (by simpa using h1) (by simpa using h2)
theorem call_listS {X : Cx} (hc : X.calm = true) : CallR X (.type "list") rListS := by
  intro pins s σ H xs us Q I r h
  match xs, h with
  | [.str z], ⟨hz, q⟩ =>
    obtain ⟨u, rfl, hu⟩ : ∃ u, us = [u] ∧ RelV (.str z) u := by
      cases r with
      | cons a b =>
        cases b
        exact ⟨_, rfl, a⟩
    obtain ⟨t, rfl⟩ := hu
    refine PySem.call_list_str (I.ok.hd hc) z t (hn := hz) ?_
    intro h1 tk acc c1 keep at1 its
    have fresh : H s.heap.objs.size = none := I.hok.fresh (Nat.le_refl _)
    have rel : Vals (signsV z) acc.toList := by
      refine vals_signs _ _ ?_ ?_
      · rw [Array.length_toList, its.1, Array.length_toList]
      · intro i c u e1 e2
        obtain ⟨c2, t2, e3, e4⟩ := its.2 i u (by simpa using e2)
        rw [Array.getElem?_toList, e3] at e1
        refine ⟨t2, ?_⟩
        rw [e4, Option.some.inj e1]
    refine ⟨.ref _, _, I.laid (t' := tk) (o := .lst (signsV z)) keep (Nat.le_refl _) ⟨?_, acc.toList, c1, rel, ?_⟩, rfl, q _ fresh⟩
    · unfold signsV
      rw [List.length_map, Array.length_toList]
      exact hz
    · rw [at1]
def rListZ (K : PySem.W.Frag) : List V → Hp → VK → Prop := fun vs H Q => match vs with
  | [.str z] => rListS [.str z] H Q
  | [.ref p] => rList K [.ref p] H Q
  | _ => False
theorem call_listZ {X : Cx} (hc : X.calm = true) : CallR X (.type "list") (rListZ X.K) := by
  intro pins s σ H xs us Q I r h
  match xs, h with
  | [.str z], h => exact call_listS hc pins s σ H _ us Q I r h
  | [.ref p], h => exact call_list pins s σ H _ us Q I r h
end Z
/-! Steps through readings: each takes the goal's head off. -/
namespace Z
open PySem PySem.Spec PyProof.Rows L2 G
section
variable {K : PySem.W.Frag} {σ : L2.St} {H : Hp} {Q : VK} {D : Ends} {te ta tb tc : TE} {v x y : V} {i : Nat} {r r' : R2} {t : TA} {tt t1 t2 : TT} {ts tu : TS} {g : TG} {sp : Sp} {E : XK}
theorem s_var (h : σ[i]? = some (some v)) (q : Q v H) : tVar i σ H Q := ⟨v, h, q⟩
theorem s_c (q : Q v H) : tC v σ H Q := q
theorem s_op (q : ta σ H fun x H1 => tb σ H1 fun y H2 => r x y H2 Q) : tOp r ta tb σ H Q := q
theorem s_un {r : V → Hp → VK → Prop} (q : ta σ H fun x H1 => r x H1 Q) : tUn r ta σ H Q := q
theorem s_nil {Q : List V → Hp → Prop} (q : Q [] H) : tNil σ H Q := q
theorem s_cons {Q : List V → Hp → Prop} (q : ta σ H fun x H1 => t σ H1 fun xs H2 => Q (x :: xs) H2) : tCons ta t σ H Q := q
theorem s_cb {r : List V → Hp → VK → Prop} (q : t σ H fun vs H1 => r vs H1 Q) : tCB r t σ H Q := q
theorem s_call (q : t σ H fun vs H1 => sp vs H1 Q E) : tCall sp [] E t σ H Q := by
  unfold tCall
  simp only [List.append_nil]
  exact q
theorem s_tup (q : t σ H fun xs H1 => xs.length ≤ sizeLine ∧ ∀ p, H1 p = none → Q (.ref p) (upd H1 p (.tup xs))) : tTup t σ H Q := q
theorem s_lst (q : t σ H fun xs H1 => xs.length ≤ sizeLine ∧ ∀ p, H1 p = none → Q (.ref p) (upd H1 p (.lst xs))) : tLst t σ H Q := q
theorem s_test {Q : Bool → Hp → Prop} (q : te σ H fun x H1 => ∃ k, x = .bl k ∧ Q k H1) : tTest te σ H Q := q
theorem s_B {Q : Bool → Hp → Prop} (q : te σ H fun x H1 => ∃ k, x = .bl k ∧ Q k H1) : tB te σ H Q := q
theorem s_bl {b : Bool} {P : Bool → Prop} (q : P b) : ∃ k, V.bl b = .bl k ∧ P k := ⟨b, rfl, q⟩
theorem s_and {Q : Bool → Hp → Prop} (q : t1 σ H fun c H1 => if c = true then t2 σ H1 Q else Q false H1) : tAnd t1 t2 σ H Q := q
theorem s_or {Q : Bool → Hp → Prop} (q : t1 σ H fun c H1 => if c = true then Q true H1 else t2 σ H1 Q) : tOr t1 t2 σ H Q := q
theorem s_not {Q : Bool → Hp → Prop} (q : t1 σ H fun c H1 => Q (!c) H1) : tNot t1 σ H Q := q
theorem s_andV (q : ta σ H fun x H1 => ∃ c, x = .bl c ∧ if c = true then tb σ H1 Q else Q (.bl false) H1) : tAndV ta tb σ H Q := q
theorem s_orV (q : ta σ H fun x H1 => ∃ c, x = .bl c ∧ if c = true then Q (.bl true) H1 else tb σ H1 Q) : tOrV ta tb σ H Q := q
theorem s_notV (q : ta σ H fun x H1 => ∃ c, x = .bl c ∧ Q (.bl (!c)) H1) : tNotV ta σ H Q := q
theorem s_if (q : t1 σ H fun c H1 => if c = true then ta σ H1 Q else tb σ H1 Q) : tIf t1 ta tb σ H Q := q
theorem s_chain (q : ta σ H fun x H1 => tb σ H1 fun y H2 => r x y H2 fun z H3 => ∃ k, z = .bl k ∧ (if k = true then tc σ H3 fun w H4 => r' y w H4 Q else Q (.bl false) H3)) : tChain r r' ta tb tc σ H Q := q
theorem s_seq (q : ts { D with nx := tu D } σ H) : tSeq ts tu D σ H := q
theorem s_next (q : D.nx σ H) : tNext D σ H := q
theorem s_drop (q : te σ H fun _ H1 => D.nx σ H1) : tDrop te D σ H := q
theorem s_ret (q : te σ H D.rt) : tRet te D σ H := q
theorem s_ifS (q : t1 σ H fun b H1 => if b = true then ts D σ H1 else tu D σ H1) : tIfS t1 ts tu D σ H := q
theorem s_asg (q : te σ H fun x H1 => g x σ H1 D.nx) : tAsg te g D σ H := q
theorem s_name {Q : L2.St → Hp → Prop} (q : Q (σ.set i (some x)) H) : gName i x σ H Q := q
theorem s_par {j : Nat} (q : t σ H fun vs H1 => ∃ v w, vs = [v, w] ∧ D.nx ((σ.set i (some v)).set j (some w)) H1) : tPar i j t D σ H := q
theorem s_two {a b : V} {P : V → V → Prop} (q : P a b) : ∃ v w, [a, b] = [v, w] ∧ P v w := ⟨a, b, rfl, q⟩
theorem s_item (q : te σ H fun o H1 => ta σ H1 fun i H2 => rSetL o i v H2 fun H3 => D.nx σ H3) : gSub te ta rSetL v σ H D.nx := q
theorem s_part {Q : Option Int → Hp → Prop} (q : te σ H fun x H1 => ∃ i, x = .int i ∧ Q (some i) H1) : tPart te σ H Q := q
theorem s_noPart {Q : Option Int → Hp → Prop} (q : Q none H) : tNoPart σ H Q := q
theorem s_int {j : Int} {P : Int → Prop} (q : P j) : ∃ i, V.int j = .int i ∧ P i := ⟨j, rfl, q⟩
theorem s_cut {tl th : TO} {r : V → Option Int → Option Int → Hp → VK → Prop} (q : te σ H fun x H1 => tl σ H1 fun l H2 => th σ H2 fun u H3 => r x l u H3 Q) : tSl r te tl th σ H Q := q
theorem s_bm0 {T : String} {r : V → List V → Hp → VK → Prop} (q : te σ H fun x H1 => tyV K T x H1 ∧ r x [] H1 Q) : tBM0 K T r te σ H Q := q
theorem s_bm {T : String} {r : V → List V → Hp → VK → Prop} (q : te σ H fun x H1 => tyV K T x H1 ∧ t σ H1 fun xs H2 => r x xs H2 Q) : tBM K T r te t σ H Q := q
/-! the operators at their values -/
theorem a_addI {i j : Int} (q : Q (.int (i + j)) H) : Z.rAdd K (.int i) (.int j) H Q := q
theorem a_subI {i j : Int} (q : Q (.int (i - j)) H) : Z.rSub (.int i) (.int j) H Q := q
theorem a_ltI {i j : Int} (q : Q (.bl (decide (i < j))) H) : Z.rLt (.int i) (.int j) H Q := q
theorem a_leI {i j : Int} (q : Q (.bl (decide (i ≤ j))) H) : Z.rLe (.int i) (.int j) H Q := q
theorem a_gtI {i j : Int} (q : Q (.bl (decide (j < i))) H) : Z.rGt (.int i) (.int j) H Q := q
theorem a_geI {i j : Int} (q : Q (.bl (decide (j ≤ i))) H) : Z.rGe (.int i) (.int j) H Q := q
theorem a_eqI {i j : Int} (q : Q (.bl (decide (i = j))) H) : Z.rEq K (.int i) (.int j) H Q := .inl ⟨rfl, by simpa using q⟩
theorem a_neI {i j : Int} (q : Q (.bl (!decide (i = j))) H) : Z.rNe K (.int i) (.int j) H Q := .inl ⟨rfl, by simpa using q⟩
theorem a_eqS {i j : Str} (q : Q (.bl (decide (i = j))) H) : Z.rEq K (.str i) (.str j) H Q := .inl ⟨rfl, by simpa using q⟩
theorem a_neS {i j : Str} (q : Q (.bl (!decide (i = j))) H) : Z.rNe K (.str i) (.str j) H Q := .inl ⟨rfl, by simpa using q⟩
theorem a_eqB {i j : Bool} (q : Q (.bl (decide (i = j))) H) : Z.rEq K (.bl i) (.bl j) H Q := .inl ⟨rfl, by simpa using q⟩
theorem a_neB {i j : Bool} (q : Q (.bl (!decide (i = j))) H) : Z.rNe K (.bl i) (.bl j) H Q := .inl ⟨rfl, by simpa using q⟩
theorem a_isN (q : Q (.bl (decide (x = .non))) H) : Z.rIsN x .non H Q := q
theorem a_notN (q : Q (.bl (!decide (x = .non))) H) : Z.rNotN x .non H Q := q
theorem a_int {i : Int} (q : Q (.int i) H) : Z.rInt [.int i] H Q := q
theorem a_intB {k : Bool} (q : Q (.int (if k then 1 else 0)) H) : Z.rInt [.bl k] H Q := q
theorem a_abs {i : Int} (q : Q (.int (if i < 0 then -i else i)) H) : Z.rAbs [.int i] H Q := q
theorem a_max {i j : Int} (q : Q (.int (if j > i then j else i)) H) : Z.rMax [.int i, .int j] H Q := q
theorem a_min {i j : Int} (q : Q (.int (if j < i then j else i)) H) : Z.rMin [.int i, .int j] H Q := q
theorem a_mod {i j : Int} (q : 0 < j ∧ Q (.int (i % j)) H) : Z.rMod (.int i) (.int j) H Q := q
theorem a_div {i j : Int} (q : (0 < j ∧ j < 1073741824) ∧ Q (.int (i / j)) H) : Z.rDiv (.int i) (.int j) H Q := q
theorem a_mulI {i j : Int} (q : (CMul i j ∨ CMulW i j) ∧ Q (.int (i * j)) H) : Z.rMul (.int i) (.int j) H Q := q
theorem a_pow {i j : Int} (q : (0 ≤ j ∧ (Builtin.Int.intBits i : Int) * j ≤ 2 ^ 27) ∧ Q (.int (i ^ j.toNat)) H) : Z.rPow (.int i) (.int j) H Q := q
theorem a_setL {p : Addr} {k : Int} {Q : Hp → Prop} (q : ∃ xs j, H p = some (.lst xs) ∧ ixN xs.length k = some j ∧ Q (upd H p (.lst (xs.set j v)))) : rSetL (.ref p) (.int k) v H Q :=
  let ⟨xs, j, h1, h2, h3⟩ := q
  ⟨p, xs, k, j, rfl, rfl, h1, h2, h3⟩
end
end Z
/-! The rules with the module's part named. -/
namespace Z
open PySem PySem.Spec PyProof.Rows L2 G
section
variable {X : Cx} {K : PySem.W.Frag}
theorem k_add (h : X.K = K := by rfl) : OpR X (binaryOp .Add) (Z.rAdd K) := by
  subst h
  exact Z.op_add
theorem k_eq (hu : X.A.units + 64 < cLine) (h : X.K = K := by rfl) : OpR X (compareOp .Eq) (Z.rEq K) := by
  subst h
  exact Z.op_eq hu
theorem k_ne (hu : X.A.units + 64 < cLine) (h : X.K = K := by rfl) : OpR X (compareOp .NotEq) (Z.rNe K) := by
  subst h
  exact Z.op_ne hu
theorem k_in (h : X.K = K := by rfl) : OpR X (compareOp .In) (rIn K false) := by
  subst h
  exact op_in_seq
theorem k_notIn (h : X.K = K := by rfl) : OpR X (compareOp .NotIn) (rIn K true) := by
  subst h
  exact op_notIn_seq
theorem k_len (h : X.K = K := by rfl) : CallR X (.builtin "len") (Z.rLen K) := by
  subst h
  exact Z.call_len
theorem k_item (h : X.K = K := by rfl) : IxR X (Z.rItem K) := by
  subst h
  exact Z.ix_item
theorem k_cut (h : X.K = K := by rfl) : SlR X (Z.rCut K) := by
  subst h
  exact Z.sl_cut
theorem k_list (hc : X.calm = true) (h : X.K = K := by rfl) : CallR X (.type "list") (Z.rListZ K) := by
  subst h
  exact Z.call_listZ hc
theorem k_tuple (h : X.K = K := by rfl) : CallR X (.type "tuple") (Z.rTuple K) := by
  subst h
  exact Z.call_tuple
theorem k_all (hc : X.calm = true) (h : X.K = K := by rfl) : CallR X (.builtin "all") (Z.rAll K) := by
  subst h
  exact Z.call_all hc
theorem k_is (h : X.K = K := by rfl) : CallR X (.builtin "isinstance") (Z.rIs K) := by
  subst h
  exact Z.call_is
theorem k_bm0 {o : Expr} {name : Str} {apos cpos : Pos} {T id : String} {r : V → List V → Hp → VK → Prop} {to : TE} (pa : PlainAttrs T) (slot : Slot T name id) (ty : typeOf (.builtin id) = pure (.type "method_descriptor")) (hm : MtR X id r) (ho : PE X o to)
    (h : X.K = K := by rfl) (hb : attributeBase o name X.env (eval o X.env) = eval o X.env := by rfl) (hl : (apos.endLine == cpos.line) = true := by rfl) : PE X (.Call (.Attribute o name apos) [] [] cpos) (tBM0 K T r to) := by
  subst h
  exact pe_bm0 pa slot ty hm ho hb hl
theorem k_bm {o e : Expr} {es : List Expr} {name : Str} {apos cpos : Pos} {T id : String} {r : V → List V → Hp → VK → Prop} {to : TE} {t : TA} (pa : PlainAttrs T) (slot : Slot T name id) (ty : typeOf (.builtin id) = pure (.type "method_descriptor")) (hm : MtR X id r) (ho : PE X o to) (ha : PA X (e :: es) t)
    (h : X.K = K := by rfl) (hb : attributeBase o name X.env (eval o X.env) = eval o X.env := by rfl)
    (few : ((backTo cpos (starEach (e :: es) X.env)).all (fun x => !x.1) && (backToKw cpos (keywordEach [] X.env)).all (fun x => x.1.isSome) && decide ((e :: es).length + ([] : List Keyword).length + (if ([] : List Keyword).isEmpty then 0 else 1) < 30)) = true := by rfl)
    (hl : (apos.endLine == cpos.line) = true := by rfl) (hs : starEach (e :: es) X.env = (false, eval e X.env) :: starEach es X.env := by rfl) (hp : (backTo cpos (starEach es X.env)).any (·.1) = false := by rfl) :
    PE X (.Call (.Attribute o name apos) (e :: es) [] cpos) (tBM K T r to t) := by
  subst h
  exact pe_bm pa slot ty hm ho ha hb few hl hs hp
theorem k_tup {es : List Expr} {k : Nat} {t : TGs} {n : Nat} {pos : Pos} (hc : X.calm = true) (g : PGs X es t) (h : X.K = K := by rfl)
    (hn : (assignEach es X.env).length = n := by rfl) (hst : (assignEach es X.env).findIdx? (·.1) = none := by rfl) : PG X (.Tuple es k pos) (gTup K n t) := by
  subst h
  exact pg_tup hc g hn hst
/-- sorted of fewer than 64 texts -/
def rSorted (K : PySem.W.Frag) : List V → Hp → VK → Prop := fun vs H Q => match vs with
  | [.ref a] => ∃ xs : List Str, SqL K H a (xs.map V.str) ∧ xs.length < 64 ∧ ∀ (ys : List Str) (p : Addr), ys.Perm xs → sortedS ys = true → H p = none → Q (.ref p) (upd H p (.lst (ys.map V.str)))
  | _ => False
theorem k_sortedS (h : X.K = K := by rfl) : CallR X (.builtin "sorted") (rSorted K) := by
  subst h
  intro pins s σ H xs us Q I r q
  match xs, q with
  | [.ref a], ⟨ys, h1, h2, h3⟩ => exact cr_sortedS pins s σ H _ us Q I r ⟨a, ys, rfl, h1, h2, h3⟩
end
end Z
/-! What a call of a law's draw leaves: the pot may change, all else stays. -/
namespace Z
open PySem PySem.Spec PyProof.Rows L2 G
/-- the heap without one address -/
def hid (a : Addr) (H : Hp) : Hp := fun b => if b = a then none else H b
theorem hid_ne {a b : Addr} {H : Hp} (h : b ≠ a) : hid a H b = H b := if_neg h
theorem hid_some {a b : Addr} {H : Hp} {o : HO} (h : hid a H b = some o) : b ≠ a ∧ H b = some o := by
  by_cases e : b = a
  · rw [show hid a H b = none from if_pos e] at h
    cases h
  · exact ⟨e, by rw [hid_ne e] at h; exact h⟩
/-- a pot: three numbers, the first one at least 0, the second one small -/
def Pot (a : Addr) (H : Hp) : Prop := ∃ p q r : Int, H a = some (.lst [.int p, .int q, .int r]) ∧ 0 ≤ p ∧ 0 ≤ q ∧ q < 2 ^ 61
/-- from H to H1 the pot may have changed, all else that was known stays -/
structure Mv (a : Addr) (H H1 : Hp) : Prop where
  same : Same (hid a H) (hid a H1)
  pot : Pot a H1
theorem Pot.some {a : Addr} {H : Hp} (h : Pot a H) : H a ≠ none := by
  obtain ⟨p, q, r, e, _⟩ := h
  rw [e]
  exact fun n => nomatch n
theorem Mv.refl {a : Addr} {H : Hp} (h : Pot a H) : Mv a H H := ⟨Same.refl _, h⟩
theorem Mv.trans {a : Addr} {H H1 H2 : Hp} (m : Mv a H H1) (n : Mv a H1 H2) : Mv a H H2 := ⟨m.same.trans n.same, n.pot⟩
theorem Mv.at {a b : Addr} {H H1 : Hp} {o : HO} (m : Mv a H H1) (ne : b ≠ a) (h : H b = Option.some o) : H1 b = Option.some o :=
  (hid_some (m.same b o (by rw [hid_ne ne]; exact h))).2
/-- what is new behind is new before -/
theorem Mv.free {a p : Addr} {H H1 : Hp} (m : Mv a H H1) (h0 : Pot a H) (h : H1 p = none) : H p = none := by
  cases e : H p with
  | none => rfl
  | some o =>
    by_cases ne : p = a
    · rw [ne] at h
      exact absurd h m.pot.some
    · rw [m.at ne e] at h
      cases h
theorem Pot.keep {a : Addr} {H H1 : Hp} (h : Pot a H) (e : H1 a = H a) : Pot a H1 := by
  obtain ⟨p, q, r, e1, rest⟩ := h
  exact ⟨p, q, r, e.trans e1, rest⟩
/-- a new object -/
theorem Mv.new {a p : Addr} {H H1 : Hp} {o : HO} (m : Mv a H H1) (h : H1 p = none) : Mv a H (upd H1 p o) := by
  have ne : a ≠ p := fun e => m.pot.some (by rw [e]; exact h)
  refine ⟨fun b u e => ?_, m.pot.keep (upd_ne ne)⟩
  obtain ⟨n1, e1⟩ := hid_some (m.same b u e)
  rw [hid_ne n1, upd_ne (ne_of_none e1 h)]
  exact e1
/-- an object that was not known at first may change -/
theorem Mv.upd {a p : Addr} {H H1 : Hp} {o : HO} (m : Mv a H H1) (h0 : Pot a H) (h : H p = none) : Mv a H (upd H1 p o) := by
  have ne : a ≠ p := fun e => h0.some (by rw [e]; exact h)
  refine ⟨fun b u e => ?_, m.pot.keep (upd_ne ne)⟩
  have e0 := (hid_some e).2
  obtain ⟨n1, e1⟩ := hid_some (m.same b u e)
  rw [hid_ne n1, upd_ne (ne_of_none e0 h)]
  exact e1
theorem Mv.ne {a p : Addr} {H H1 : Hp} (h0 : Pot a H) (m : Mv a H H1) (h : H1 p = none) : p ≠ a := fun e => m.pot.some (by rw [← e]; exact h)
/-- sequences beside the pot -/
def Beside (a : Addr) (K : PySem.W.Frag) (H : Hp) (b : Addr) (xs : List V) : Prop := SqL K (hid a H) b xs ∨ SqT K (hid a H) b xs
theorem rd_unhid {a b : Addr} {H : Hp} {u : HO} (h : Rd (hid a H) b u) : Rd H b u := by
  rcases h with h | ⟨o, h⟩
  · exact .inl (hid_some h).2
  · exact .inr ⟨o, (hid_some h).2⟩
theorem sql_unhid {a b : Addr} {K : PySem.W.Frag} {H : Hp} {xs : List V} (h : SqL K (hid a H) b xs) : SqL K H b xs := by
  rcases h with h | h
  · exact .inl (rd_unhid h)
  · exact .inr h
theorem sqt_unhid {a b : Addr} {K : PySem.W.Frag} {H : Hp} {xs : List V} (h : SqT K (hid a H) b xs) : SqT K H b xs := by
  rcases h with h | h
  · exact .inl (rd_unhid h)
  · exact .inr h
theorem Beside.seq {a b : Addr} {K : PySem.W.Frag} {H : Hp} {xs : List V} (h : Beside a K H b xs) : SqL K H b xs ∨ SqT K H b xs := by
  rcases h with h | h
  · exact .inl (sql_unhid h)
  · exact .inr (sqt_unhid h)
theorem same_sqt {K : PySem.W.Frag} {H H1 : Hp} {b : Addr} {xs : List V} (s : Same H H1) (h : SqT K H b xs) : SqT K H1 b xs := by
  rcases h with (h | ⟨o, h⟩) | h
  · exact .inl (.inl (s _ _ h))
  · exact .inl (.inr ⟨o, s _ _ h⟩)
  · exact .inr h
theorem Beside.mv {a b : Addr} {K : PySem.W.Frag} {H H1 : Hp} {xs : List V} (h : Beside a K H b xs) (m : Mv a H H1) : Beside a K H1 b xs := by
  rcases h with h | h
  · exact .inl (m.same.seq h)
  · exact .inr (same_sqt m.same h)
theorem Beside.lst {a b : Addr} {K : PySem.W.Frag} {H : Hp} {xs : List V} (ne : b ≠ a) (h : H b = some (.lst xs)) : Beside a K H b xs := .inl (.inl (.inl (by rw [hid_ne ne]; exact h)))
theorem Beside.tup {a b : Addr} {K : PySem.W.Frag} {H : Hp} {xs : List V} (ne : b ≠ a) (h : H b = some (.tup xs)) : Beside a K H b xs := .inr (.inl (.inl (by rw [hid_ne ne]; exact h)))
/-- a def of the text: where it stands, its function, how its arguments bind -/
structure Def (K : PySem.W.Frag) (mg : Str → Option Value) (x : Str) (st : Stmt) (ps : List Str) (f : Addr) (fd : FuncData) : Prop where
  F : Fun K x x st f fd
  g : mg x = some (.ref f)
  b : Binds K fd ps []
theorem at_0 {α : Type} {x : α} {xs : List α} : atI (x :: xs) 0 = some x := by
  show (ixN (x :: xs).length 0).bind _ = _
  unfold ixN
  simp
theorem atI_lt {α : Type} {xs : List α} {i : Int} {x : α} (h0 : 0 ≤ i) (h : xs[i.toNat]? = some x) : atI xs i = some x := by
  have e : i = ((i.toNat : Nat) : Int) := by omega
  rw [e]
  exact atI_nat h
end Z
/-! Comprehensions and loops, once for all walks: R says where the heap may be. -/
namespace Z
open PySem PySem.Spec PyProof.Rows L2 G
/-- a comprehension over what J walks, from here on -/
def CompOk (J : It) (g : TG) (tt : TT) (te : TE) (vs : List Nat) (σ : L2.St) (H1 : Hp) (Q : VK) : Prop :=
  ∀ L, H1 L = none → ∃ W : Nat → Nat → Hp → Prop, (∃ m, W 0 m (upd H1 L (.lst []))) ∧ ∀ i m H, W i m H →
    (J.stop i H ∧ Q (.ref L) H) ∨ (J.go i H ∧ ∃ Nx : Hp → Prop, (∀ Hn, Nx Hn → ∃ k, k < m ∧ W (i + 1) k Hn) ∧ ∀ x Hy, J.yld i H x Hy → g x (wipe σ vs) Hy fun σ2 H2 => wipe σ2 vs = wipe σ vs ∧ tt σ2 H2 fun b H3 =>
      if b = true then te σ2 H3 fun y H4 => ∃ acc, H4 L = some (.lst acc) ∧ acc.length < sizeLine ∧ Nx (upd H4 L (.lst (acc ++ [y]))) else Nx H3)
/-- a loop over what J walks, from here on -/
def LoopOk (J : It) (g : TG) (tb : TS) (D : Ends) (σ : L2.St) (H1 : Hp) : Prop :=
  ∃ W : Nat → Nat → L2.St → Hp → Prop, (∃ m, W 0 m σ H1) ∧ ∀ i m σ H, W i m σ H →
    (J.stop i H ∧ D.nx σ H) ∨ (J.go i H ∧ ∃ N : L2.St → Hp → Prop, (∀ σn Hn, N σn Hn → ∃ k, k < m ∧ W (i + 1) k σn Hn) ∧ ∀ x Hy, J.yld i H x Hy → g x σ Hy fun σ2 H2 => tb { D with nx := N, ct := N, bk := D.nx } σ2 H2)
section
variable {K : PySem.W.Frag} {σ : L2.St} {H : Hp} {Q : VK} {D : Ends} {te tl : TE} {ta : TA} {wi : TI} {g : TG} {tt : TT} {tb : TS} {vs : List Nat} {j : Nat} {R : It → Hp → Prop}
theorem s_lc (q : wi σ H fun J H1 => CompOk J g tt te vs σ H1 Q) : tLc wi g tt te vs σ H Q := q
theorem s_for (q : wi σ H fun J H1 => LoopOk J g tb D σ H1) : tFor wi g tb D σ H := q
theorem s_iList (q : tl σ H fun x H1 => ∃ a, x = .ref a ∧ (∃ xs, SqL K H1 a xs) ∧ R (Itl K a) H1) : iList K tl σ H R := q
theorem s_iTup (q : tl σ H fun x H1 => ∃ a, x = .ref a ∧ (∃ xs, SqT K H1 a xs) ∧ R (Itt K a) H1) : iTup K tl σ H R := q
theorem s_iStr (q : tl σ H fun x H1 => ∃ z, x = .str z ∧ R (Its z) H1) : iStr tl σ H R := q
theorem s_rng1 (q : ta σ H fun ws H1 => ∃ n : Int, ws = [.int n] ∧ -(2 ^ 62) ≤ n ∧ n < 2 ^ 62 ∧ R (Itr 0 n.toNat) H1) : iRng1 ta σ H R := q
theorem s_rng2 (q : ta σ H fun ws H1 => ∃ i n : Int, ws = [.int i, .int n] ∧ (-(2 ^ 62) ≤ i ∧ i < 2 ^ 62 ∧ -(2 ^ 62) ≤ n ∧ n < 2 ^ 62) ∧ R (Itr i (n - i).toNat) H1) : iRng2 ta σ H R := q
theorem s_ref {a : Addr} {P : Addr → Prop} (q : P a) : ∃ b, V.ref a = .ref b ∧ P b := ⟨a, rfl, q⟩
theorem s_str {z : Str} {P : Str → Prop} (q : P z) : ∃ y, V.str z = .str y ∧ P y := ⟨z, rfl, q⟩
theorem s_one {n : Int} {P : Int → Prop} (q : P n) : ∃ m : Int, [V.int n] = [.int m] ∧ P m := ⟨n, rfl, q⟩
theorem s_gtup {n : Nat} {t : TGs} {v : V} {Q : L2.St → Hp → Prop} (q : ∃ a xs, v = .ref a ∧ SqT K H a xs ∧ xs.length = n ∧ t xs σ H Q) : gTup K n t v σ H Q := q
theorem s_gcons {t : TG} {u : TGs} {v : V} {r : List V} {Q : L2.St → Hp → Prop} (q : t v σ H fun σ1 H1 => u r σ1 H1 Q) : gCons t u (v :: r) σ H Q := ⟨v, r, rfl, q⟩
theorem s_gnil {Q : L2.St → Hp → Prop} (q : Q σ H) : gNil [] σ H Q := ⟨rfl, q⟩
theorem s_yes {Q : Bool → Hp → Prop} (q : Q true H) : tYes σ H Q := q
/-- what a walk hands out, the heap as it was -/
abbrev Hands (y : Nat → V → Prop) : Nat → Hp → V → Hp → Prop := fun i Ha x Hb => Hb = Ha ∧ y i x
/-- where a comprehension stands: M says where the heap may be, Iv what holds of the list so far -/
def At (M : Hp → Prop) (Iv : Nat → List V → Hp → Prop) (L : Addr) (i : Nat) (H : Hp) : Prop := ∃ acc, M H ∧ H L = some (.lst acc) ∧ acc.length ≤ i ∧ Iv i acc H
/-- v is put behind -/
def Put (M : Hp → Prop) (Iv : Nat → List V → Hp → Prop) (L : Addr) (i : Nat) (v : V) (H : Hp) : Prop := ∃ acc, H L = some (.lst acc) ∧ acc.length < sizeLine ∧ At M Iv L (i + 1) (upd H L (.lst (acc ++ [v])))
/-- one turn's wish -/
def Turns (M : Hp → Prop) (Iv : Nat → List V → Hp → Prop) (L : Addr) (i : Nat) (g : TG) (tt : TT) (te : TE) (vs : List Nat) (σ : L2.St) (x : V) (H : Hp) : Prop :=
  g x (wipe σ vs) H fun σ2 H2 => wipe σ2 vs = wipe σ vs ∧ tt σ2 H2 fun b H3 => if b = true then te σ2 H3 fun v H4 => Put M Iv L i v H4 else At M Iv L (i + 1) H3
theorem comp {J : It} {n : Nat} {Gd : Hp → Prop} {y : Nat → V → Prop} (W : Walk J n Gd (Hands y)) (M : Hp → Prop) (Iv : Nat → List V → Hp → Prop) (m0 : M H)
    (mu : ∀ L o H2, H L = none → M H2 → M (upd H2 L o)) (iu : ∀ L o i acc H2, H L = none → M H2 → Iv i acc H2 → Iv i acc (upd H2 L o)) (i0 : Iv 0 [] H) (good : ∀ i acc H2, M H2 → Iv i acc H2 → Gd H2)
    (hs : ∀ L i acc x H2, H L = none → i < n → y i x → acc.length ≤ i → M H2 → H2 L = some (.lst acc) → Iv i acc H2 → Turns M Iv L i g tt te vs σ x H2)
    (done : ∀ L acc H2, H L = none → acc.length ≤ n → M H2 → H2 L = some (.lst acc) → Iv n acc H2 → Q (.ref L) H2) : CompOk J g tt te vs σ H Q := by
  intro L fresh
  refine lc_it W (At M Iv L) ⟨[], mu _ _ _ fresh m0, upd_same, Nat.le_refl _, iu _ _ _ _ _ fresh m0 i0⟩ ?_ ?_ ?_
  · rintro i H2 _ ⟨acc, m, _, _, iv⟩
    exact good i acc H2 m iv
  · rintro i x H2 Hy hi ⟨acc, m, at_, len, iv⟩ ⟨e, hy⟩
    rw [e]
    exact hs L i acc x H2 fresh hi hy len m at_ iv
  · rintro H2 ⟨acc, m, at_, len, iv⟩
    exact done L acc H2 fresh len m at_ iv
theorem put {M : Hp → Prop} {Iv : Nat → List V → Hp → Prop} {L : Addr} {i : Nat} {v : V} {acc : List V} {H0 H5 : Hp} (fresh : H0 L = none) (mu : ∀ L o H2, H0 L = none → M H2 → M (upd H2 L o)) (iu : ∀ L o i acc H2, H0 L = none → M H2 → Iv i acc H2 → Iv i acc (upd H2 L o))
    (at_ : H5 L = some (.lst acc)) (few : i < 1000000) (len : acc.length ≤ i) (m : M H5) (iv : Iv (i + 1) (acc ++ [v]) H5) : Put M Iv L i v H5 := by
  refine ⟨acc, at_, Nat.lt_of_le_of_lt len (Nat.lt_trans few (by decide)), acc ++ [v], mu _ _ _ fresh m, upd_same, ?_, iu _ _ _ _ _ fresh m iv⟩
  rw [List.length_append]
  exact Nat.add_le_add_right len 1
/-- .. where what holds of the list so far may speak of its address -/
theorem comp2 {J : It} {n : Nat} {Gd : Hp → Prop} {y : Nat → V → Prop} (W : Walk J n Gd (Hands y)) (M : Hp → Prop) (Iv : Addr → Nat → List V → Hp → Prop) (m0 : M H)
    (mu : ∀ L o H2, H L = none → M H2 → M (upd H2 L o)) (iu : ∀ L o i acc H2, H L = none → M H2 → Iv L i acc H2 → Iv L i acc (upd H2 L o)) (i0 : ∀ L, H L = none → Iv L 0 [] H) (good : ∀ H2, M H2 → Gd H2)
    (hs : ∀ L i acc x H2, H L = none → i < n → y i x → acc.length ≤ i → M H2 → H2 L = some (.lst acc) → Iv L i acc H2 → Turns M (Iv L) L i g tt te vs σ x H2)
    (done : ∀ L acc H2, H L = none → acc.length ≤ n → M H2 → H2 L = some (.lst acc) → Iv L n acc H2 → Q (.ref L) H2) : CompOk J g tt te vs σ H Q := by
  intro L fresh
  refine lc_it W (At M (Iv L) L) ⟨[], mu _ _ _ fresh m0, upd_same, Nat.le_refl _, iu _ _ _ _ _ fresh m0 (i0 L fresh)⟩ ?_ ?_ ?_
  · rintro i H2 _ ⟨acc, m, _, _, iv⟩
    exact good H2 m
  · rintro i x H2 Hy hi ⟨acc, m, at_, len, iv⟩ ⟨e, hy⟩
    rw [e]
    exact hs L i acc x H2 fresh hi hy len m at_ iv
  · rintro H2 ⟨acc, m, at_, len, iv⟩
    exact done L acc H2 fresh len m at_ iv
theorem put2 {M : Hp → Prop} {Iv : Nat → List V → Hp → Prop} {L : Addr} {i : Nat} {v : V} {acc : List V} {H5 : Hp} (mu : ∀ o H2, M H2 → M (upd H2 L o)) (iu : ∀ o i acc H2, M H2 → Iv i acc H2 → Iv i acc (upd H2 L o))
    (at_ : H5 L = some (.lst acc)) (few : i < 1000000) (len : acc.length ≤ i) (m : M H5) (iv : Iv (i + 1) (acc ++ [v]) H5) : Put M Iv L i v H5 := by
  refine ⟨acc, at_, Nat.lt_of_le_of_lt len (Nat.lt_trans few (by decide)), acc ++ [v], mu _ _ m, upd_same, ?_, iu _ _ _ _ m iv⟩
  rw [List.length_append]
  exact Nat.add_le_add_right len 1
theorem skip {M : Hp → Prop} {Iv : Nat → List V → Hp → Prop} {L : Addr} {i : Nat} {acc : List V} {H5 : Hp} (at_ : H5 L = some (.lst acc)) (len : acc.length ≤ i) (m : M H5) (iv : Iv (i + 1) acc H5) : At M Iv L (i + 1) H5 :=
  ⟨acc, m, at_, Nat.le_succ_of_le len, iv⟩
/-- a turn of a comprehension whose target is a name, without tests -/
theorem turn1 {M : Hp → Prop} {Iv : Nat → List V → Hp → Prop} {L : Addr} {i : Nat} {x : V} (hw : wipe ((wipe σ vs).set j (some x)) vs = wipe σ vs) (q : te ((wipe σ vs).set j (some x)) H fun v H4 => Put M Iv L i v H4) : Turns M Iv L i (gName j) tYes te vs σ x H :=
  ⟨hw, q⟩
theorem turnIf {M : Hp → Prop} {Iv : Nat → List V → Hp → Prop} {L : Addr} {i : Nat} {x : V} (hw : wipe ((wipe σ vs).set j (some x)) vs = wipe σ vs)
    (q : tt ((wipe σ vs).set j (some x)) H fun b H3 => if b = true then te ((wipe σ vs).set j (some x)) H3 fun v H4 => Put M Iv L i v H4 else At M Iv L (i + 1) H3) : Turns M Iv L i (gName j) tt te vs σ x H := ⟨hw, q⟩
/-- a loop -/
theorem loop {J : It} {n : Nat} {Gd : Hp → Prop} {y : Nat → V → Prop} (W : Walk J n Gd (Hands y)) (Iv : Nat → L2.St → Hp → Prop) (i0 : Iv 0 σ H) (good : ∀ i σ2 H2, Iv i σ2 H2 → Gd H2)
    (hs : ∀ i x σ2 H2, i < n → y i x → Iv i σ2 H2 → g x σ2 H2 fun σ3 H3 => tb { D with nx := Iv (i + 1), ct := Iv (i + 1), bk := D.nx } σ3 H3) (done : ∀ σ2 H2, Iv n σ2 H2 → D.nx σ2 H2) : LoopOk J g tb D σ H :=
  for_it W Iv i0 (fun i σ2 H2 _ h => good i σ2 H2 h) (fun i x σ2 H2 Hy hi p ⟨e, hy⟩ => by
    rw [e]
    exact hs i x σ2 H2 hi hy p) done
theorem walkL {a : Addr} {xs : List V} : Walk (Itl K a) xs.length (fun H => SqL K H a xs) (Hands fun i x => xs[i]? = some x) := walk_list
theorem walkT {a : Addr} {xs : List V} : Walk (Itt K a) xs.length (fun H => SqT K H a xs) (Hands fun i x => xs[i]? = some x) := walk_tup
theorem walkR {lo : Int} {n : Nat} : Walk (Itr lo n) n (fun _ => True) (Hands fun i x => x = .int (lo + i)) := walk_range
theorem walkS {z : Str} : Walk (Its z) z.cps.size (fun _ => True) (Hands fun i v => ∃ c, z.cps[i]? = some c ∧ v = .str ⟨#[c]⟩) := walk_str
end
end Z
local macro_rules | `(tactic| walk_at "st") => `(tactic| repeat (first
  | ((with_reducible refine' Z.s_var ?h ?_); (case h => exact rfl))
  | with_reducible refine Z.s_c ?_
  | with_reducible refine Z.s_op ?_
  | with_reducible refine Z.s_un ?_
  | with_reducible refine Z.s_nil ?_
  | with_reducible refine Z.s_cons ?_
  | with_reducible refine Z.s_cb ?_
  | with_reducible refine Z.s_call ?_
  | with_reducible refine Z.s_tup ?_
  | with_reducible refine Z.s_lst ?_
  | with_reducible refine Z.s_test ?_
  | with_reducible refine Z.s_B ?_
  | with_reducible refine Z.s_and ?_
  | with_reducible refine Z.s_or ?_
  | with_reducible refine Z.s_not ?_
  | with_reducible refine Z.s_andV ?_
  | with_reducible refine Z.s_orV ?_
  | with_reducible refine Z.s_notV ?_
  | with_reducible refine Z.s_if ?_
  | with_reducible refine Z.s_chain ?_
  | with_reducible refine Z.s_seq ?_
  | with_reducible refine Z.s_next ?_
  | with_reducible refine Z.s_drop ?_
  | with_reducible refine Z.s_ret ?_
  | with_reducible refine Z.s_ifS ?_
  | with_reducible refine Z.s_asg ?_
  | with_reducible refine Z.s_name ?_
  | with_reducible refine Z.s_par ?_
  | with_reducible refine Z.s_item ?_
  | with_reducible refine Z.s_part ?_
  | with_reducible refine Z.s_noPart ?_
  | with_reducible refine Z.s_cut ?_
  | with_reducible refine Z.s_bm0 ?_
  | with_reducible refine Z.s_bm ?_
  | with_reducible refine Z.s_bl (P := _) ?_
  | with_reducible refine Z.s_two (P := _) ?_
  | with_reducible refine Z.s_int (P := _) ?_
  | with_reducible refine Z.a_addI ?_
  | with_reducible refine Z.a_subI ?_
  | with_reducible refine Z.a_ltI ?_
  | with_reducible refine Z.a_leI ?_
  | with_reducible refine Z.a_gtI ?_
  | with_reducible refine Z.a_geI ?_
  | with_reducible refine Z.a_eqI ?_
  | with_reducible refine Z.a_neI ?_
  | with_reducible refine Z.a_eqS ?_
  | with_reducible refine Z.a_neS ?_
  | with_reducible refine Z.a_eqB ?_
  | with_reducible refine Z.a_neB ?_
  | with_reducible refine Z.a_isN ?_
  | with_reducible refine Z.a_notN ?_
  | with_reducible refine Z.a_setL ?_
  | with_reducible refine Z.a_int ?_
  | with_reducible refine Z.a_intB ?_
  | with_reducible refine Z.a_abs ?_
  | with_reducible refine Z.a_max ?_
  | with_reducible refine Z.a_min ?_
  | with_reducible refine Z.s_lc ?_
  | with_reducible refine Z.s_for ?_
  | with_reducible refine Z.s_iList ?_
  | with_reducible refine Z.s_iTup ?_
  | with_reducible refine Z.s_iStr ?_
  | with_reducible refine Z.s_rng1 ?_
  | with_reducible refine Z.s_rng2 ?_
  | with_reducible refine Z.s_gtup ?_
  | with_reducible refine Z.s_gcons ?_
  | with_reducible refine Z.s_gnil ?_
  | with_reducible refine Z.s_yes ?_
  | with_reducible refine Z.s_ref (P := _) ?_
  | with_reducible refine Z.s_str (P := _) ?_
  | with_reducible refine Z.s_one (P := _) ?_
  | with_reducible refine Z.s_m1 ?_
  | with_reducible refine Z.s_m0 ?_
  | with_reducible refine Z.s_isStr ?_))
namespace Z
open PySem PySem.Spec PyProof.Rows L2 G
def topS (i : Nat) : Stmt := PySem.Challenge.pw_fewersteps_k02_whole_histories_of_stream.main.body.getD i (.Pass ⟨0, 0, 0, 0⟩)
/-- the builtins' names are free -/
structure Txt (mg : Str → Option Value) : Prop where
  int : mg "int" = none
  len : mg "len" = none
  list : mg "list" = none
  range : mg "range" = none
  sorted : mg "sorted" = none
  tuple : mg "tuple" = none
section
variable {P : Program} {w : World} {K : PySem.W.Frag} {mg : Str → Option Value} {base : Heap}
def spDip : Sp := fun vs H Q _ => ∃ a n, vs = [.ref a, .int n] ∧ Pot a H ∧ 0 < n ∧ n < 1073741824 ∧ ∀ H1 r, Mv a H H1 → 0 ≤ r → r < n → Q (.int r) H1
theorem potItem {a : Addr} {H : Hp} {p q r : Int} (h : H a = some (.lst [.int p, .int q, .int r])) {Q : VK} {i : Int} {z : Int} (hi : atI [V.int p, V.int q, V.int r] i = some (.int z)) (k : Q (.int z) H) : Z.rItem K (.ref a) (.int i) H Q :=
  ⟨_, _, .inl (SqL.of h), hi, k⟩
theorem mv_pot {a : Addr} {H : Hp} {p q r p' q' r' : Int} (h : H a = some (.lst [.int p, .int q, .int r])) (p0 : 0 ≤ p') (q0 : 0 ≤ q') (q1 : q' < 2 ^ 61) : Mv a H (upd H a (.lst [.int p', .int q', .int r'])) := by
  refine ⟨fun b o e => ?_, p', q', r', upd_same, p0, q0, q1⟩
  obtain ⟨n, e⟩ := hid_some e
  rw [hid_ne n, upd_ne n]
  exact e
abbrev s_law_dip : Stmt := topS 23
theorem sc_law_dip : FnScope ["pot", "total", "found", "one", "two"] ["pot", "total"] (defScope s_law_dip) := ⟨rfl, rfl, rfl, by decide +kernel, rfl, by decide +kernel, by decide +kernel⟩
theorem ok_dip {f : Addr} {fd : FuncData} (T : Txt mg) (D : Def K mg "_law_dip" s_law_dip ["pot", "total"] f fd) : FnOk P w K mg base CX0 1 f fd ["pot", "total"] spDip := by
  refine D.F.ok sc_law_dip (fun vs H Q E h => ?_) (fun cdv A outer s H vs Q E hr h => ?_)
  · obtain ⟨a, n, rfl, _⟩ := h
    rfl
  · obtain ⟨a, n, rfl, ⟨p, q, r, hp, p0, q0, q1⟩, n0, n1, k⟩ := h
    refine ⟨_, (pss_cons (ps_if (pt_cmpR Z.op_gt (pe_ix (Z.k_item (K := K)) (pv 0) pe_int (fun _ _ => rfl)) pe_int (nomark _))
  (pss_cons (ps_set (i := 2) sc_law_dip.nd rfl (by first | exact Or.inl rfl | exact Or.inr rfl) (pe_op Z.op_mod (pe_callTy Z.call_int (by rfl) T.int (by decide +kernel) (pa_cons (pe_ix (Z.k_item (K := K)) (pv 0) pe_int (fun _ _ => rfl)) pa_nil)) (pv 1)))
 (pss_cons (ps_asg (pe_op Z.op_div (pe_ix (Z.k_item (K := K)) (pv 0) pe_int (fun _ _ => rfl)) (pv 1)) (pg_sub (pv 0) pe_int set_list))
 (pss_one (ps_ret (pv 2)))))
  pss_nil)
 (pss_cons (ps_asg (pe_op (Z.k_add (K := K)) (pe_ix (Z.k_item (K := K)) (pv 0) pe_int (fun _ _ => rfl)) pe_int) (pg_sub (pv 0) pe_int set_list))
 (pss_cons (ps_set (i := 3) sc_law_dip.nd rfl (by first | exact Or.inl rfl | exact Or.inr rfl) (pe_op Z.op_mod (pe_callTy Z.call_int (by rfl) T.int (by decide +kernel) (pa_cons (pe_op (Z.k_add (K := K)) (pe_op Z.op_mul (pe_ix (Z.k_item (K := K)) (pv 0) pe_int (fun _ _ => rfl)) pe_int) (pe_op Z.op_mul (pe_ix (Z.k_item (K := K)) (pv 0) pe_int (fun _ _ => rfl)) pe_int)) pa_nil)) pe_int))
 (pss_cons (ps_set (i := 4) sc_law_dip.nd rfl (by first | exact Or.inl rfl | exact Or.inr rfl) (pe_op Z.op_mod (pe_callTy Z.call_int (by rfl) T.int (by decide +kernel) (pa_cons (pe_op (Z.k_add (K := K)) (pe_op Z.op_mul (pv 3) (pv 3)) (pe_op Z.op_mul pe_int (pe_ix (Z.k_item (K := K)) (pv 0) pe_int (fun _ _ => rfl)))) pa_nil)) pe_int))
 (pss_one (ps_ret (pe_op Z.op_mod (pe_callTy Z.call_int (by rfl) T.int (by decide +kernel) (pa_cons (pe_op Z.op_div (pe_op Z.op_mod (pe_callTy Z.call_int (by rfl) T.int (by decide +kernel) (pa_cons (pe_op (Z.k_add (K := K)) (pe_op Z.op_mul (pv 4) pe_int) (pv 3)) pa_nil)) pe_int) pe_int) pa_nil)) (pv 1)))))))), ?_⟩
    walk_at "st"
    refine potItem hp (z := p) (by rfl) ?_
    walk_at "st"
    refine ite2 (fun c => ?_) (fun c => ?_)
    · have pp : 0 < p := of_decide_eq_true c
      walk_at "st"
      refine potItem hp (z := p) (by rfl) ?_
      walk_at "st"
      refine a_mod ⟨n0, ?_⟩
      walk_at "st"
      refine potItem hp (z := p) (by rfl) ?_
      walk_at "st"
      refine a_div ⟨⟨n0, n1⟩, ?_⟩
      walk_at "st"
      refine ⟨_, 0, hp, rfl, ?_⟩
      walk_at "st"
      exact k _ _ (mv_pot hp (Int.ediv_nonneg p0 (by omega)) q0 q1) (Int.emod_nonneg _ (by omega)) (Int.emod_lt_of_pos _ n0)
    · walk_at "st"
      refine potItem hp (z := r) (by rfl) ?_
      walk_at "st"
      refine ⟨_, 2, hp, rfl, ?_⟩
      walk_at "st"
      have hp2 : (upd H a (.lst [.int p, .int q, .int (r + 1)])) a = some (.lst [.int p, .int q, .int (r + 1)]) := upd_same
      refine potItem hp2 (z := q) (by rfl) ?_
      walk_at "st"
      refine a_mulI ⟨.inl (.inl ⟨by omega, by omega⟩), ?_⟩
      walk_at "st"
      refine potItem hp2 (z := r + 1) (by rfl) ?_
      walk_at "st"
      refine a_mulI ⟨.inl (.inr ⟨by decide, by decide⟩), ?_⟩
      walk_at "st"
      refine a_mod ⟨by decide, ?_⟩
      walk_at "st"
      have b0 : 0 ≤ (q * 3935559000370003845 + (r + 1) * 2691343689449507681) % 2305843009213693951 := Int.emod_nonneg _ (by decide)
      have b1 : (q * 3935559000370003845 + (r + 1) * 2691343689449507681) % 2305843009213693951 < 2305843009213693951 := Int.emod_lt_of_pos _ (by decide)
      generalize (q * 3935559000370003845 + (r + 1) * 2691343689449507681) % 2305843009213693951 = one at b0 b1 ⊢
      refine a_mulI ⟨.inl (.inl ⟨by omega, by omega⟩), ?_⟩
      walk_at "st"
      refine potItem hp2 (z := r + 1) (by rfl) ?_
      refine a_mulI ⟨.inl (.inl ⟨by decide, by decide⟩), ?_⟩
      walk_at "st"
      refine a_mod ⟨by decide, ?_⟩
      walk_at "st"
      refine a_mulI ⟨.inl (.inr ⟨by decide, by decide⟩), ?_⟩
      walk_at "st"
      refine a_mod ⟨by decide, ?_⟩
      walk_at "st"
      refine a_div ⟨⟨by decide, by decide⟩, ?_⟩
      walk_at "st"
      refine a_mod ⟨n0, ?_⟩
      exact k _ _ (mv_pot hp p0 q0 q1) (Int.emod_nonneg _ (by omega)) (Int.emod_lt_of_pos _ n0)
/-- one of the items of a sequence, or one of the signs of a text -/
def spChoose (K : PySem.W.Frag) : Sp := fun vs H Q _ => ∃ a, Pot a H ∧
  ((∃ b xs, vs = [.ref a, .ref b] ∧ Beside a K H b xs ∧ 0 < xs.length ∧ xs.length < 1000000 ∧ ∀ H1 v, Mv a H H1 → v ∈ xs → Q v H1) ∨
    ∃ z : Str, vs = [.ref a, .str z] ∧ 0 < z.length ∧ z.length < 1000000 ∧ ∀ H1 c, Mv a H H1 → c ∈ z.cps.toList → Q (.str ⟨#[c]⟩) H1)
theorem nat_in {n : Nat} {r : Int} (h0 : 0 ≤ r) (h1 : r < (n : Nat)) : r.toNat < n := by omega
abbrev s_law_choose : Stmt := topS 24
theorem sc_law_choose : FnScope ["pot", "items"] ["pot", "items"] (defScope s_law_choose) := ⟨rfl, rfl, rfl, by decide +kernel, rfl, by decide +kernel, by decide +kernel⟩
theorem ok_choose {f fdip : Addr} {fd fddip : FuncData} (T : Txt mg) (D : Def K mg "_law_choose" s_law_choose ["pot", "items"] f fd) (D_law_dip : Def K mg "_law_dip" s_law_dip ["pot", "total"] fdip fddip) : FnOk P w K mg base CX0 2 f fd ["pot", "items"] (spChoose K) := by
  have G_law_dip : FnOk P w K mg base CX0 1 fdip fddip ["pot", "total"] spDip := ok_dip T D_law_dip
  refine D.F.ok sc_law_choose (fun vs H Q E h => ?_) (fun cdv A outer s H vs Q E hr h => ?_)
  · obtain ⟨a, _, ⟨b, xs, rfl, _⟩ | ⟨z, rfl, _⟩⟩ := h <;> rfl
  · refine ⟨_, (pss_one (ps_ret (pe_ix (Z.k_item (K := K)) (pv 1) (pe_call G_law_dip (hr.mono (by decide)) (by rfl) D_law_dip.g D_law_dip.F.kp D_law_dip.b .nil pass0 (pa_cons (pv 0) (pa_cons (pe_callB (Z.k_len (K := K)) (by rfl) T.len (by decide +kernel) (pa_cons (pv 1) pa_nil)) pa_nil))) (fun _ _ => rfl)))), ?_⟩
    obtain ⟨a, pot, ⟨b, xs, rfl, bs, n0, n1, k⟩ | ⟨z, rfl, n0, n1, k⟩⟩ := h
    · walk_at "st"
      refine .inl ⟨xs, bs.seq, ?_⟩
      walk_at "st"
      refine ⟨a, _, rfl, pot, by omega, by omega, fun H1 r m r0 r1 => ?_⟩
      have lt := nat_in r0 r1
      exact ⟨xs, xs[r.toNat], (bs.mv m).seq, atI_lt r0 (List.getElem?_eq_getElem lt), k H1 _ m (List.getElem_mem lt)⟩
    · have small : z.length ≤ sizeLine := Nat.le_trans (Nat.le_of_lt n1) (by decide)
      walk_at "st"
      refine ⟨small, ?_⟩
      walk_at "st"
      refine ⟨a, _, rfl, pot, by omega, by omega, fun H1 r m r0 r1 => ?_⟩
      have lt : r.toNat < z.cps.toList.length := by
        rw [Array.length_toList]
        exact nat_in r0 r1
      exact ⟨small, z.cps.toList[r.toNat], atI_lt r0 (List.getElem?_eq_getElem lt), k H1 _ m (List.getElem_mem lt)⟩
/-- all items, in some order -/
def spShuffled (K : PySem.W.Frag) : Sp := fun vs H Q _ => ∃ a y xs, vs = [.ref a, y] ∧ Pot a H ∧ ((∃ b, y = .ref b ∧ Beside a K H b xs) ∨ ∃ z : Str, y = .str z ∧ xs = signsV z) ∧ xs.length < 1000000 ∧
  ∀ H1 p ys, Mv a H H1 → H p = none → H1 p = some (.lst ys) → ys.Perm xs → Q (.ref p) H1
theorem perm_erase {α : Type} : ∀ {l : List α} {k : Nat} {x : α}, l[k]? = some x → (x :: l.eraseIdx k).Perm l
  | [], k, x, h => by simp at h
  | y :: l, 0, x, h => by
    have e : y = x := Option.some.inj h
    rw [e]
    exact List.Perm.refl _
  | y :: l, k + 1, x, h => by
    have ih := perm_erase (l := l) (k := k) (x := x) (by simpa using h)
    show (x :: y :: l.eraseIdx k).Perm (y :: l)
    exact (List.Perm.swap y x _).trans (ih.cons y)
theorem ix_of {r : Int} {n : Nat} (h0 : 0 ≤ r) (h1 : r < (n : Nat)) : seqIndex? r n = some r.toNat := by
  unfold seqIndex?
  simp [h0, h1, Int.not_lt.mpr h0]
abbrev s_law_shuffled : Stmt := topS 25
theorem sc_law_shuffled : FnScope ["pot", "items", "left", "turn"] ["pot", "items"] (defScope s_law_shuffled) := ⟨rfl, rfl, rfl, by decide +kernel, rfl, by decide +kernel, by decide +kernel⟩
theorem ok_shuffled {f fdip : Addr} {fd fddip : FuncData} (T : Txt mg) (D : Def K mg "_law_shuffled" s_law_shuffled ["pot", "items"] f fd) (D_law_dip : Def K mg "_law_dip" s_law_dip ["pot", "total"] fdip fddip) : FnOk P w K mg base CX0 2 f fd ["pot", "items"] (spShuffled K) := by
  have G_law_dip : FnOk P w K mg base CX0 1 fdip fddip ["pot", "total"] spDip := ok_dip T D_law_dip
  refine D.F.ok sc_law_shuffled (fun vs H Q E h => ?_) (fun cdv A outer s H vs Q E hr h => ?_)
  · obtain ⟨a, y, xs, rfl, _⟩ := h
    rfl
  · obtain ⟨a, y, xs, rfl, pot, src, few, k⟩ := h
    refine ⟨_, (pss_cons (ps_set (i := 2) sc_law_shuffled.nd rfl (by first | exact Or.inl rfl | exact Or.inr rfl) (pe_callTy (Z.k_list (K := K) rfl) (by rfl) T.list (by decide +kernel) (pa_cons (pv 1) pa_nil)))
 (pss_one (ps_ret (pe_lc (own := [("turn", 3)]) (by rfl) sc_law_shuffled.nd (pi_range1 (by rfl) T.range (pa_cons (pe_callB (Z.k_len (K := K)) (by rfl) T.len (by decide +kernel) (pa_cons (pv 1) pa_nil)) pa_nil)) (blkOk_by (own := [("turn", 3)]) (N := ["pot", "items", "left", "turn"]) (sc := defScope s_law_shuffled) (by decide +kernel))
   (fun _ _ _ _ _ => (pg_name (i := 3) sc_law_shuffled.nd rfl (by first | exact Or.inl rfl | exact Or.inr rfl))) (fun _ _ _ _ _ => pts_nil) (fun _ _ _ _ _ => (Z.k_bm (K := K) PySem.F.plainAttrs_list PySem.F.slot_list_pop PySem.F.type_list_pop mt_popAt (pv 2) (pa_cons (pe_call G_law_dip (hr.mono (by decide)) (by rfl) D_law_dip.g D_law_dip.F.kp D_law_dip.b .nil pass0 (pa_cons (pv 0) (pa_cons (pe_callB (Z.k_len (K := K)) (by rfl) T.len (by decide +kernel) (pa_cons (pv 2) pa_nil)) pa_nil))) pa_nil))))))), ?_⟩
    have listed : ∀ Q : VK, (∀ l, H l = none → Q (.ref l) (upd H l (.lst xs))) → rListZ K [y] H Q := by
      intro Q q
      rcases src with ⟨b, rfl, bs⟩ | ⟨z, rfl, rfl⟩
      · exact ⟨xs, bs.seq, q⟩
      · unfold signsV at few
        rw [List.length_map, Array.length_toList] at few
        exact ⟨Nat.le_trans (Nat.le_of_lt few) (by decide), q⟩
    have lens : ∀ (H1 : Hp) (Q : VK), Mv a H H1 → Q (.int (xs.length : Nat)) H1 → rLen K [y] H1 Q := by
      intro H1 Q m q
      rcases src with ⟨b, rfl, bs⟩ | ⟨z, rfl, rfl⟩
      · exact .inl ⟨xs, (bs.mv m).seq, q⟩
      · unfold signsV at few q
        rw [List.length_map, Array.length_toList] at few q
        exact ⟨Nat.le_trans (Nat.le_of_lt few) (by decide), q⟩
    walk_at "st"
    refine listed _ fun l nl => ?_
    have m1 : Mv a H (upd H l (.lst xs)) := (Mv.refl pot).new nl
    walk_at "st"
    refine lens _ _ m1 ?_
    walk_at "st"
    have la : l ≠ a := Mv.ne pot (Mv.refl pot) nl
    have un : ∀ L, upd H l (.lst xs) L = none → H L = none ∧ L ≠ l := by
      intro L e
      have ne : L ≠ l := by
        intro z
        rw [z, upd_same] at e
        cases e
      rw [upd_ne ne] at e
      exact ⟨e, ne⟩
    have mu : ∀ L o H2, upd H l (.lst xs) L = none → Mv a H H2 → Mv a H (upd H2 L o) := fun L o H2 e m => m.upd pot (un L e).1
    have iu : ∀ (L : Addr) (o : HO) (i : Nat) (acc : List V) (H2 : Hp), upd H l (.lst xs) L = none → Mv a H H2 → (∃ rest, H2 l = some (.lst rest) ∧ (acc ++ rest).Perm xs ∧ i + rest.length = xs.length) →
        (∃ rest, upd H2 L o l = some (.lst rest) ∧ (acc ++ rest).Perm xs ∧ i + rest.length = xs.length) := by
      rintro L o i acc H2 e m ⟨rest, h1, h2, h3⟩
      exact ⟨rest, by rw [upd_ne (un L e).2.symm]; exact h1, h2, h3⟩
    refine ⟨by omega, by omega, comp walkR (Mv a H) (fun i acc H2 => ∃ rest, H2 l = some (.lst rest) ∧ (acc ++ rest).Perm xs ∧ i + rest.length = xs.length) m1 mu iu ⟨xs, upd_same, List.Perm.refl _, Nat.zero_add _⟩ (fun _ _ _ _ _ => trivial) ?_ ?_⟩
    · rintro L i acc x H2 fresh hi _ len m at_ ⟨rest, hl, perm, many⟩
      have hi2 : i < xs.length := by omega
      refine turn1 rfl ?_
      walk_at "st"
      refine ⟨.inl ⟨rfl, _, SqL.of hl⟩, ?_⟩
      walk_at "st"
      refine .inl ⟨rest, .inl (SqL.of hl), ?_⟩
      walk_at "st"
      refine ⟨a, _, rfl, m.pot, by omega, by omega, fun H3 r m3 r0 r1 => ?_⟩
      have lt := nat_in r0 r1
      have hl3 : H3 l = some (.lst rest) := m3.at la hl
      have la3 : H3 L = some (.lst acc) := m3.at (Mv.ne pot (Mv.refl pot) (un L fresh).1) at_
      walk_at "st"
      refine ⟨l, rest, r, r.toNat, rest[r.toNat], rfl, rfl, hl3, by omega, by omega, ix_of r0 r1, List.getElem?_eq_getElem lt, ?_⟩
      refine put (acc := acc) fresh mu iu ?_ (by omega) len ((m.trans m3).upd pot nl) ⟨rest.eraseIdx r.toNat, upd_same, ?_, ?_⟩
      · rw [upd_ne (un L fresh).2]
        exact la3
      · rw [List.append_assoc]
        exact ((perm_erase (List.getElem?_eq_getElem lt)).append_left acc).trans perm
      · rw [List.length_eraseIdx_of_lt lt]
        omega
    · rintro L acc H2 fresh len m at_ ⟨rest, hl, perm, many⟩
      have e : rest = [] := List.eq_nil_of_length_eq_zero (by omega)
      rw [e, List.append_nil] at perm
      exact k H2 L acc m (un L fresh).1 at_ perm
end
end Z
/-! Texts: joined, small. -/
namespace Z
open PySem PySem.Spec PyProof.Rows L2 G
/-- sep.join(xs) -/
def rJoin (K : PySem.W.Frag) : V → List V → Hp → VK → Prop := fun x vs H Q => match x, vs with
  | .str a, [.ref p] => ∃ ys : List Str, (SqL K H p (ys.map V.str) ∨ SqT K H p (ys.map V.str)) ∧ (ys.map (·.length)).sum + ys.length * a.length ≤ 16777216 ∧ Q (.str (Txt.join a ys)) H
  | _, _ => False
theorem k_join {X : Cx} {K : PySem.W.Frag} {o e : Expr} {to te : TE} {apos pos : Pos} (ho : PE X o to) (he : PE X e te) (h : X.K = K := by rfl) (hs : starEach [e] X.env = [(false, eval e X.env)] := by rfl)
    (hb : attributeBase o "join" X.env (eval o X.env) = eval o X.env := by rfl) (hl : (apos.endLine == pos.line) = true := by rfl) : PE X (.Call (.Attribute o "join" apos) [e] [] pos) (tM1 (rJoin K) to te) := by
  subst h
  refine pe_m1 F.slot_str_join F.type_str_join ?_ ho he hs hb hl
  intro pins s σ H x xs v us Q I rx rs q
  cases x with
  | str a =>
    match xs, q with
    | [.ref p], ⟨ys, h1, h2, h3⟩ => exact mt_join pins s σ H _ _ v us Q I rx rs ⟨a, p, ys, rfl, rfl, h1, h2, h3⟩
  | _ => exact False.elim q
section
variable {σ : L2.St} {H : Hp} {Q : VK} {to te : TE} {r : V → List V → Hp → VK → Prop} {P : Prop} {z : Str}
theorem s_m1 (q : to σ H fun x H1 => (∃ a, x = .str a) ∧ te σ H1 fun y H2 => r x [y] H2 Q) : tM1 r to te σ H Q := q
theorem s_m0 (q : to σ H fun x H1 => (∃ a, x = .str a) ∧ r x [] H1 Q) : tM0 r to σ H Q := q
theorem s_isStr (q : P) : (∃ a, V.str z = .str a) ∧ P := ⟨⟨z, rfl⟩, q⟩
end
theorem joinL_nil : ∀ cs : List Nat, TL.joinL [] (cs.map fun c => [c]) = cs
  | [] => rfl
  | [c] => rfl
  | c :: d :: r => by
    have ih := joinL_nil (d :: r)
    show [c] ++ ([] ++ TL.joinL [] ((d :: r).map fun c => [c])) = c :: d :: r
    rw [ih]
    rfl
/-- signs, put together by nothing -/
theorem join_signs (cs : List Nat) : (Txt.join (Str.ofString "") (cs.map fun c => (⟨#[c]⟩ : Str))).cps.toList = cs := by
  have e : (Str.ofString "").cps.toList = [] := by decide +kernel
  have t := TL.tl_join (Str.ofString "") (cs.map fun c => (⟨#[c]⟩ : Str))
  rw [← TL.join_eq] at t
  refine t.trans ?_
  show TL.joinL (Str.ofString "").cps.toList _ = cs
  rw [e, List.map_map]
  exact joinL_nil cs
theorem signs_sum (cs : List Nat) : ((cs.map fun c => (⟨#[c]⟩ : Str)).map (·.length)).sum = cs.length := by
  induction cs with
  | nil => rfl
  | cons c cs ih =>
    rw [List.map_cons, List.map_cons, List.sum_cons, ih, List.length_cons]
    exact Nat.add_comm 1 _
/-- "".join of signs -/
theorem join_of {K : PySem.W.Frag} {H : Hp} {Q : VK} {p : Addr} {cs : List Nat} (h : SqL K H p (cs.map fun c => V.str ⟨#[c]⟩)) (few : cs.length < 1000000) (q : ∀ z : Str, z.cps.toList = cs → Q (.str z) H) : rJoin K (.str (Str.ofString "")) [.ref p] H Q := by
  refine ⟨cs.map fun c => (⟨#[c]⟩ : Str), .inl ?_, ?_, q _ (join_signs cs)⟩
  · rw [List.map_map]
    exact h
  · have e : (Str.ofString "").length = 0 := by decide +kernel
    rw [signs_sum, e, Nat.mul_zero]
    omega
/-! ### words of letters -/
def letB (c : Nat) : Bool := decide (97 ≤ c) && decide (c ≤ 122)
/-- a word of one to n letters from a to z -/
def wordB (n : Nat) (z : Str) : Bool := decide (0 < z.cps.size) && decide (z.cps.size ≤ n) && z.cps.toList.all letB
/-- a name -/
def nameB (z : Str) : Bool := wordB 8 z && !decide (z = Str.ofString "end")
theorem wordB_of {n : Nat} {z : Str} {cs : List Nat} (e : z.cps.toList = cs) (h0 : 0 < cs.length) (h1 : cs.length ≤ n) (h : ∀ c ∈ cs, letB c = true) : wordB n z = true := by
  unfold wordB
  have l : z.cps.size = cs.length := by
    rw [← e, Array.length_toList]
  rw [e, l, decide_eq_true h0, decide_eq_true h1, Bool.true_and, Bool.true_and]
  exact List.all_eq_true.mpr h
theorem wordB_len {n : Nat} {z : Str} (h : wordB n z = true) : 0 < z.length ∧ z.length ≤ n ∧ ∀ c ∈ z.cps.toList, letB c = true := by
  unfold wordB at h
  simp only [Bool.and_eq_true, decide_eq_true_eq, List.all_eq_true] at h
  exact ⟨h.1.1, h.1.2, h.2⟩
/-- one of some texts, all of which are so -/
theorem one_of {P : Str → Prop} {zs : List Str} {v : V} (h : ∀ z ∈ zs, P z) (m : v ∈ zs.map V.str) : ∃ z, v = .str z ∧ P z := by
  obtain ⟨z, hz, e⟩ := List.mem_map.mp m
  exact ⟨z, e.symm, h z hz⟩
theorem all_of {P : Str → Bool} {zs : List Str} (h : zs.all P = true) : ∀ z ∈ zs, P z = true := List.all_eq_true.mp h
/-! ### signs: letters, each later than the one ahead -/
def upB : List Nat → Bool
  | [] => true
  | [_] => true
  | c :: d :: r => decide (c < d) && upB (d :: r)
/-- signs of a stream -/
def signsB (z : Str) : Bool := wordB 4 z && upB z.cps.toList
theorem perm_map_inv {α β : Type} {f : α → β} {g : β → α} (hg : ∀ x, g (f x) = x) {ys : List β} {l : List α} (p : ys.Perm (l.map f)) : ∃ cs : List α, cs.Perm l ∧ ys = cs.map f := by
  refine ⟨ys.map g, ?_, ?_⟩
  · have q := p.map g
    rw [List.map_map, show g ∘ f = id from funext hg, List.map_id] at q
    exact q
  · rw [List.map_map]
    have : ∀ y ∈ ys, (f ∘ g) y = y := by
      intro y hy
      obtain ⟨x, _, e⟩ := List.mem_map.mp (p.mem_iff.mp hy)
      rw [← e]
      show f (g (f x)) = f x
      rw [hg]
    exact (List.map_id ys).symm.trans (List.map_congr_left fun y hy => (this y hy).symm)
theorem cut_take (xs : List V) {i : Int} (h : 0 ≤ i) : cutV xs none (some i) = xs.take i.toNat := by
  unfold cutV
  have e : i = ((i.toNat : Nat) : Int) := by omega
  rw [e, HT.sIx_none, HT.sIx_nat, List.drop_zero, Nat.sub_zero, Int.toNat_natCast]
  rw [List.take_eq_take_iff]
  omega
theorem cut_drop (xs : List V) {i : Int} (h : 0 ≤ i) : cutV xs (some i) none = xs.drop i.toNat := by
  unfold cutV
  have e : i = ((i.toNat : Nat) : Int) := by omega
  rw [e, HT.sIx_none, HT.sIx_nat, Int.toNat_natCast]
  by_cases c : i.toNat ≤ xs.length
  · rw [Nat.min_eq_left c, ← List.length_drop]
    exact List.take_length
  · have c2 : xs.length ≤ i.toNat := by omega
    rw [Nat.min_eq_right c2, List.drop_length, List.drop_eq_nil_of_le c2, List.take_nil]
theorem up_of : ∀ (cs : List Nat), sortedS (cs.map fun c => (⟨#[c]⟩ : Str)) = true → cs.Nodup → upB cs = true
  | [], _, _ => rfl
  | [_], _, _ => rfl
  | c :: d :: r, h, nd => by
    have h1 : (!ltCps [d] [c] && risingS ⟨#[d]⟩ (r.map fun c => (⟨#[c]⟩ : Str))) = true := h
    rw [Bool.and_eq_true] at h1
    have ih := up_of (d :: r) h1.2 (List.nodup_cons.mp nd).2
    have ne : c ≠ d := fun e => (List.nodup_cons.mp nd).1 (by rw [e]; exact List.mem_cons_self)
    have lt : ¬ d < c := by
      intro z
      have : ltCps [d] [c] = true := by
        show (decide (d < c) || _) = true
        rw [decide_eq_true z, Bool.true_or]
      rw [this] at h1
      exact Bool.noConfusion h1.1
    show (decide (c < d) && upB (d :: r)) = true
    rw [ih, decide_eq_true (show c < d by omega)]
    rfl
end Z
local macro_rules | `(tactic| walk_at "st") => `(tactic| repeat (first
  | ((with_reducible refine' Z.s_var ?h ?_); (case h => exact rfl))
  | with_reducible refine Z.s_c ?_
  | with_reducible refine Z.s_op ?_
  | with_reducible refine Z.s_un ?_
  | with_reducible refine Z.s_nil ?_
  | with_reducible refine Z.s_cons ?_
  | with_reducible refine Z.s_cb ?_
  | with_reducible refine Z.s_call ?_
  | with_reducible refine Z.s_tup ?_
  | with_reducible refine Z.s_lst ?_
  | with_reducible refine Z.s_test ?_
  | with_reducible refine Z.s_B ?_
  | with_reducible refine Z.s_and ?_
  | with_reducible refine Z.s_or ?_
  | with_reducible refine Z.s_not ?_
  | with_reducible refine Z.s_andV ?_
  | with_reducible refine Z.s_orV ?_
  | with_reducible refine Z.s_notV ?_
  | with_reducible refine Z.s_if ?_
  | with_reducible refine Z.s_chain ?_
  | with_reducible refine Z.s_seq ?_
  | with_reducible refine Z.s_next ?_
  | with_reducible refine Z.s_drop ?_
  | with_reducible refine Z.s_ret ?_
  | with_reducible refine Z.s_ifS ?_
  | with_reducible refine Z.s_asg ?_
  | with_reducible refine Z.s_name ?_
  | with_reducible refine Z.s_par ?_
  | with_reducible refine Z.s_item ?_
  | with_reducible refine Z.s_part ?_
  | with_reducible refine Z.s_noPart ?_
  | with_reducible refine Z.s_cut ?_
  | with_reducible refine Z.s_bm0 ?_
  | with_reducible refine Z.s_bm ?_
  | with_reducible refine Z.s_bl (P := _) ?_
  | with_reducible refine Z.s_two (P := _) ?_
  | with_reducible refine Z.s_int (P := _) ?_
  | with_reducible refine Z.a_addI ?_
  | with_reducible refine Z.a_subI ?_
  | with_reducible refine Z.a_ltI ?_
  | with_reducible refine Z.a_leI ?_
  | with_reducible refine Z.a_gtI ?_
  | with_reducible refine Z.a_geI ?_
  | with_reducible refine Z.a_eqI ?_
  | with_reducible refine Z.a_neI ?_
  | with_reducible refine Z.a_eqS ?_
  | with_reducible refine Z.a_neS ?_
  | with_reducible refine Z.a_eqB ?_
  | with_reducible refine Z.a_neB ?_
  | with_reducible refine Z.a_isN ?_
  | with_reducible refine Z.a_notN ?_
  | with_reducible refine Z.a_setL ?_
  | with_reducible refine Z.a_int ?_
  | with_reducible refine Z.a_intB ?_
  | with_reducible refine Z.a_abs ?_
  | with_reducible refine Z.a_max ?_
  | with_reducible refine Z.a_min ?_
  | with_reducible refine Z.s_lc ?_
  | with_reducible refine Z.s_for ?_
  | with_reducible refine Z.s_iList ?_
  | with_reducible refine Z.s_iTup ?_
  | with_reducible refine Z.s_iStr ?_
  | with_reducible refine Z.s_rng1 ?_
  | with_reducible refine Z.s_rng2 ?_
  | with_reducible refine Z.s_gtup ?_
  | with_reducible refine Z.s_gcons ?_
  | with_reducible refine Z.s_gnil ?_
  | with_reducible refine Z.s_yes ?_
  | with_reducible refine Z.s_ref (P := _) ?_
  | with_reducible refine Z.s_str (P := _) ?_
  | with_reducible refine Z.s_one (P := _) ?_
  | with_reducible refine Z.s_m1 ?_
  | with_reducible refine Z.s_m0 ?_
  | with_reducible refine Z.s_isStr ?_))
namespace Z
open PySem PySem.Spec PyProof.Rows L2 G
section
variable {P : Program} {w : World} {K : PySem.W.Frag} {mg : Str → Option Value} {base : Heap}
/-- a drawn name -/
def spName : Sp := fun vs H Q _ => ∃ a, vs = [.ref a] ∧ Pot a H ∧ ∀ H1 z, Mv a H H1 → nameB z = true → Q (.str z) H1
abbrev oneOf (zs : List Str) : List V := zs.map V.str
abbrev s_law_name : Stmt := topS 26
theorem sc_law_name : FnScope ["pot", "letters", "word", "found", "turn"] ["pot"] (defScope s_law_name) := ⟨rfl, rfl, rfl, by decide +kernel, rfl, by decide +kernel, by decide +kernel⟩
theorem ok_name {f fdip fch : Addr} {fd fddip fdch : FuncData} (T : Txt mg) (D : Def K mg "_law_name" s_law_name ["pot"] f fd) (D_law_dip : Def K mg "_law_dip" s_law_dip ["pot", "total"] fdip fddip) (D_law_choose : Def K mg "_law_choose" s_law_choose ["pot", "items"] fch fdch) : FnOk P w K mg base CX0 3 f fd ["pot"] spName := by
  have G_law_dip : FnOk P w K mg base CX0 1 fdip fddip ["pot", "total"] spDip := ok_dip T D_law_dip
  have G_law_choose : FnOk P w K mg base CX0 2 fch fdch ["pot", "items"] (spChoose K) := ok_choose T D_law_choose D_law_dip
  refine D.F.ok sc_law_name (fun vs H Q E h => ?_) (fun cdv A outer s H vs Q E hr h => ?_)
  · obtain ⟨a, rfl, _⟩ := h
    rfl
  · obtain ⟨a, rfl, pot, k⟩ := h
    have hu := (hr.units)
    refine ⟨_, (pss_cons (ps_set (i := 1) sc_law_name.nd rfl (by first | exact Or.inl rfl | exact Or.inr rfl) (pe_call G_law_choose (hr.mono (by decide)) (by rfl) D_law_choose.g D_law_choose.F.kp D_law_choose.b .nil pass0 (pa_cons (pv 0) (pa_cons (pe_lst (pa_cons pe_str (pa_cons pe_str (pa_cons pe_str (pa_cons pe_str pa_nil))))) pa_nil))))
 (pss_cons (ps_set (i := 2) sc_law_name.nd rfl (by first | exact Or.inl rfl | exact Or.inr rfl) (Z.k_join (K := K) pe_str (pe_lc (own := [("turn", 4)]) (by rfl) sc_law_name.nd (pi_range1 (by rfl) T.range (pa_cons (pe_op (Z.k_add (K := K)) pe_int (pe_call G_law_dip (hr.mono (by decide)) (by rfl) D_law_dip.g D_law_dip.F.kp D_law_dip.b .nil pass0 (pa_cons (pv 0) (pa_cons (pe_call G_law_choose (hr.mono (by decide)) (by rfl) D_law_choose.g D_law_choose.F.kp D_law_choose.b .nil pass0 (pa_cons (pv 0) (pa_cons (pe_lst (pa_cons pe_int (pa_cons pe_int (pa_cons pe_int pa_nil)))) pa_nil))) pa_nil)))) pa_nil)) (blkOk_by (own := [("turn", 4)]) (N := ["pot", "letters", "word", "found", "turn"]) (sc := defScope s_law_name) (by decide +kernel))
   (fun _ _ _ _ _ => (pg_name (i := 4) sc_law_name.nd rfl (by first | exact Or.inl rfl | exact Or.inr rfl))) (fun _ _ _ _ _ => pts_nil) (fun _ _ _ _ _ => (pe_call G_law_choose (hr.mono (by decide)) (by rfl) D_law_choose.g D_law_choose.F.kp D_law_choose.b .nil pass0 (pa_cons (pv 0) (pa_cons (pv 1) pa_nil)))))))
 (pss_cons (ps_set (i := 3) sc_law_name.nd rfl (by first | exact Or.inl rfl | exact Or.inr rfl) (pe_call G_law_choose (hr.mono (by decide)) (by rfl) D_law_choose.g D_law_choose.F.kp D_law_choose.b .nil pass0 (pa_cons (pv 0) (pa_cons (pe_lst (pa_cons (pv 2) (pa_cons (pv 2) (pa_cons (pv 2) (pa_cons pe_str (pa_cons pe_str (pa_cons pe_str (pa_cons pe_str (pa_cons pe_str (pa_cons pe_str (pa_cons pe_str (pa_cons pe_str (pa_cons pe_str pa_nil))))))))))))) pa_nil))))
 (pss_one (ps_ret (pe_ifExp (pt_cmpR (Z.k_ne (K := K) hu) (pv 3) pe_str (nomark _)) (pv 3) pe_str)))))), ?_⟩
    walk_at "st"
    refine ⟨by show 4 ≤ sizeLine; decide, fun p np => ?_⟩
    have m1 : Mv a H (upd H p (.lst (oneOf ["xyz", "abcdefghijklmnopqrstuvwxyz", "end", "st"]))) := (Mv.refl pot).new np
    walk_at "st"
    refine ⟨a, m1.pot, .inl ⟨p, oneOf ["xyz", "abcdefghijklmnopqrstuvwxyz", "end", "st"], rfl, Beside.lst (Mv.ne pot (Mv.refl pot) np) upd_same, by decide, by decide, fun H1 v mc hv => ?_⟩⟩
    obtain ⟨lt, rfl, hlt⟩ := one_of (P := fun z => wordB 26 z = true) (all_of (by decide +kernel)) hv
    have m2 := m1.trans mc
    walk_at "st"
    refine ⟨by show 3 ≤ sizeLine; decide, fun p2 np2 => ?_⟩
    have m3 : Mv a H _ := m2.new (o := .lst [V.int 1, .int 3, .int 8]) np2
    walk_at "st"
    refine ⟨a, m3.pot, .inl ⟨p2, [V.int 1, .int 3, .int 8], rfl, Beside.lst (Mv.ne pot m2 np2) upd_same, by decide, by decide, fun H2 v2 mc2 hv2 => ?_⟩⟩
    obtain ⟨n, rfl, n0, n1⟩ : ∃ n : Int, v2 = .int n ∧ 0 < n ∧ n ≤ 8 := by
      simp only [List.mem_cons, List.not_mem_nil, or_false] at hv2
      rcases hv2 with e | e | e <;> exact ⟨_, e, by decide, by decide⟩
    have m4 := m3.trans mc2
    walk_at "st"
    refine ⟨a, n, rfl, m4.pot, n0, by omega, fun H3 r mc3 r0 r1 => ?_⟩
    have m5 := m4.trans mc3
    walk_at "st"
    have mu : ∀ L o H6, H3 L = none → Mv a H H6 → Mv a H (upd H6 L o) := fun L o H6 e m => m.upd pot (m5.free pot e)
    have iu : ∀ (L : Addr) (o : HO) (i : Nat) (acc : List V) (H6 : Hp), H3 L = none → Mv a H H6 → (∃ cs : List Nat, acc = cs.map (fun c => V.str ⟨#[c]⟩) ∧ (∀ c ∈ cs, letB c = true) ∧ cs.length = i) →
        (∃ cs : List Nat, acc = cs.map (fun c => V.str ⟨#[c]⟩) ∧ (∀ c ∈ cs, letB c = true) ∧ cs.length = i) := fun _ _ _ _ _ _ _ h => h
    refine ⟨by omega, by omega, comp walkR (Mv a H) (fun i acc H6 => ∃ cs : List Nat, acc = cs.map (fun c => V.str ⟨#[c]⟩) ∧ (∀ c ∈ cs, letB c = true) ∧ cs.length = i) m5 mu iu ⟨[], rfl, by simp, rfl⟩ (fun _ _ _ _ _ => trivial) ?_ ?_⟩
    · rintro L i acc x H6 fresh hi _ len m at_ ⟨cs, rfl, hcs, many⟩
      have hL : H L = none := m5.free pot fresh
      refine turn1 rfl ?_
      walk_at "st"
      refine ⟨a, m.pot, .inr ⟨lt, rfl, (wordB_len hlt).1, by have := (wordB_len hlt).2.1; omega, fun H7 c mc7 hc => ?_⟩⟩
      refine put (acc := cs.map fun c => V.str ⟨#[c]⟩) fresh mu iu (mc7.at (Mv.ne pot (Mv.refl pot) hL) at_) (by omega) len (m.trans mc7) ⟨cs ++ [c], ?_, ?_, ?_⟩
      · rw [List.map_append]
        rfl
      · intro d hd
        rcases List.mem_append.mp hd with hd | hd
        · exact hcs d hd
        · rw [List.mem_singleton.mp hd]
          exact (wordB_len hlt).2.2 c hc
      · rw [List.length_append, many]
        rfl
    · rintro L acc H6 fresh len m at_ ⟨cs, rfl, hcs, many⟩
      refine join_of (SqL.of at_) (by omega) fun word hw => ?_
      have hword : wordB 8 word = true := wordB_of hw (by omega) (by omega) hcs
      walk_at "st"
      refine ⟨by show 12 ≤ sizeLine; decide, fun p3 np3 => ?_⟩
      have m7 := m.new (o := .lst (oneOf [word, word, word, "put", "take", "each", "a", "ends", "x", "y", "choose", "done"])) np3
      walk_at "st"
      refine ⟨a, m7.pot, .inl ⟨p3, oneOf [word, word, word, "put", "take", "each", "a", "ends", "x", "y", "choose", "done"], rfl, Beside.lst (Mv.ne pot m np3) upd_same, by show 0 < 12; decide, by show 12 < 1000000; decide, fun H8 v mc8 hv => ?_⟩⟩
      obtain ⟨f, rfl, hf⟩ := one_of (P := fun z => wordB 8 z = true) (by
        intro z hz
        rcases List.mem_cons.mp hz with e | hz
        · rw [e]; exact hword
        rcases List.mem_cons.mp hz with e | hz
        · rw [e]; exact hword
        rcases List.mem_cons.mp hz with e | hz
        · rw [e]; exact hword
        exact all_of (P := wordB 8) (zs := ["put", "take", "each", "a", "ends", "x", "y", "choose", "done"]) (by decide +kernel) z hz) hv
      have m8 := m7.trans mc8
      walk_at "st"
      refine ite2 (fun c => ?_) (fun c => ?_)
      · walk_at "st"
        refine k _ _ m8 ?_
        unfold nameB
        rw [hf, c]
        rfl
      · walk_at "st"
        exact k _ _ m8 (by decide +kernel)
theorem inV_str (z : Str) (zs : List Str) : inV (.str z) (zs.map V.str) = decide (z ∈ zs) := by
  unfold inV
  rw [List.any_map]
  rw [Bool.eq_iff_iff, List.any_eq_true, decide_eq_true_eq]
  constructor
  · rintro ⟨y, hy, e⟩
    have e2 : (y == z) = true := e
    rw [← beq_iff_eq.mp e2]
    exact hy
  · intro h
    refine ⟨z, h, ?_⟩
    show (z == z) = true
    exact beq_self_eq_true z
theorem flat_strs (zs : List Str) : (zs.map V.str).all flatV = true := by
  rw [List.all_map]
  exact List.all_eq_true.mpr fun _ _ => rfl
theorem few_of {α : Type} [DecidableEq α] : ∀ {l m : List α}, l.Nodup → (∀ x ∈ l, x ∈ m) → l.length ≤ m.length
  | [], _, _, _ => Nat.zero_le _
  | x :: l, m, nd, h => by
    obtain ⟨nx, nd⟩ := List.nodup_cons.mp nd
    have hx := h x List.mem_cons_self
    have sub : ∀ y ∈ l, y ∈ m.erase x := by
      intro y hy
      have ne : y ≠ x := fun e => nx (by rw [← e]; exact hy)
      exact (List.mem_erase_of_ne ne).mpr (h y (List.mem_cons_of_mem _ hy))
    have ih := few_of nd sub
    rw [List.length_erase_of_mem hx] at ih
    have pos : 0 < m.length := List.length_pos_of_mem hx
    rw [List.length_cons]
    omega
theorem same_new {H H1 : Hp} {p : Addr} {o : HO} (s : Same H H1) (h : H1 p = none) : Same H (upd H1 p o) := fun b u e => by
  have e1 := s b u e
  rw [upd_ne (ne_of_none e1 h)]
  exact e1
theorem same_upd {H H1 : Hp} {p : Addr} {o : HO} (s : Same H H1) (h : H p = none) : Same H (upd H1 p o) := fun b u e => by
  rw [upd_ne (ne_of_none e h)]
  exact s b u e
/-- the six names that are free where others are used -/
abbrev six : List Str := ["qa", "qb", "qc", "qd", "qe", "qf"]
/-- a name that is none of at most five -/
def spFree (K : PySem.W.Frag) : Sp := fun vs H Q _ => ∃ b zs, vs = [.ref b] ∧ SqL K H b (oneOf zs) ∧ zs.length ≤ 5 ∧ ∀ H1 z, Same H H1 → z ∉ zs → nameB z = true → Q (.str z) H1
abbrev s_law_free : Stmt := topS 27
theorem sc_law_free : FnScope ["names", "name"] ["names"] (defScope s_law_free) := ⟨rfl, rfl, rfl, by decide +kernel, rfl, by decide +kernel, by decide +kernel⟩
theorem ok_free {f : Addr} {fd : FuncData} (D : Def K mg "_law_free" s_law_free ["names"] f fd) : FnOk P w K mg base CX0 1 f fd ["names"] (spFree K) := by
  refine D.F.ok sc_law_free (fun vs H Q E h => ?_) (fun cdv A outer s H vs Q E hr h => ?_)
  · obtain ⟨b, zs, rfl, _⟩ := h
    rfl
  · obtain ⟨b, zs, rfl, hb, few, k⟩ := h
    refine ⟨_, (pss_one (ps_ret (pe_ix (Z.k_item (K := K)) (pe_lc (own := [("name", 1)]) (by rfl) sc_law_free.nd (pi_tup (pe_tup (pa_cons pe_str (pa_cons pe_str (pa_cons pe_str (pa_cons pe_str (pa_cons pe_str (pa_cons pe_str pa_nil)))))))) (blkOk_by (own := [("name", 1)]) (N := ["names", "name"]) (sc := defScope s_law_free) (by decide +kernel))
   (fun _ _ _ _ _ => (pg_name (i := 1) sc_law_free.nd rfl (by first | exact Or.inl rfl | exact Or.inr rfl))) (fun _ _ _ _ _ => pts_one (pt_cmpR (Z.k_notIn (K := K)) (pv 1) (pv 0) (by rfl))) (fun _ _ _ _ _ => (pv 1))) pe_int (fun _ _ => rfl)))), ?_⟩
    walk_at "st"
    refine ⟨by show 6 ≤ sizeLine; decide, fun p np => ?_⟩
    have s1 : Same H (upd H p (.tup (oneOf six))) := same_new (Same.refl H) np
    walk_at "st"
    have un : ∀ L, upd H p (.tup (oneOf six)) L = none → H L = none := fun L e => s1.free e
    refine ⟨⟨_, SqT.of upd_same⟩, comp (walkT (xs := oneOf six)) (fun H2 => Same H H2 ∧ H2 p = some (.tup (oneOf six))) (fun i acc H2 => acc = oneOf ((six.take i).filter fun z => decide (z ∉ zs))) ⟨s1, upd_same⟩ ?_ (fun _ _ _ _ _ _ _ h => h) rfl (fun _ _ H2 m _ => SqT.of m.2) ?_ ?_⟩
    · rintro L o H2 e ⟨m, hp⟩
      refine ⟨same_upd m (un L e), ?_⟩
      rw [upd_ne (ne_of_none upd_same e)]
      exact hp
    · rintro L i acc x H2 fresh hi hx len ⟨m, hp⟩ at_ rfl
      have hi6 : i < six.length := hi
      have ex : x = .str six[i] := by
        rw [List.getElem?_map, List.getElem?_eq_getElem hi6] at hx
        exact (Option.some.inj hx).symm
      rw [ex]
      refine turnIf rfl ?_
      have tk : six.take (i + 1) = six.take i ++ [six[i]] := by
        rw [List.take_add_one, List.getElem?_eq_getElem hi6]
        rfl
      walk_at "st"
      refine ⟨b, oneOf zs, rfl, .inl (m.seq hb), rfl, flat_strs zs, ?_⟩
      rw [inV_str]
      walk_at "st"
      by_cases hz : six[i] ∈ zs
      · rw [decide_eq_true hz]
        refine iteF (skip at_ len ⟨m, hp⟩ ?_)
        rw [tk, List.filter_append]
        simp [hz]
      · rw [decide_eq_false hz]
        refine iteT ?_
        walk_at "st"
        refine put fresh ?_ (fun _ _ _ _ _ _ _ h => h) at_ (Nat.lt_trans hi6 (by decide)) len ⟨m, hp⟩ ?_
        · rintro L o H2 e ⟨m, hp⟩
          refine ⟨same_upd m (un L e), ?_⟩
          rw [upd_ne (ne_of_none upd_same e)]
          exact hp
        · rw [tk, List.filter_append]
          simp [hz]
    · rintro L acc H2 fresh len ⟨m, hp⟩ at_ e
      have full : six.take (oneOf six).length = six := rfl
      rw [full] at e
      walk_at "st"
      cases hf : six.filter (fun z => decide (z ∉ zs)) with
      | nil =>
        exfalso
        have all : ∀ z ∈ six, z ∈ zs := by
          intro z hz
          refine Classical.byContradiction fun n => ?_
          have : z ∈ six.filter (fun z => decide (z ∉ zs)) := List.mem_filter.mpr ⟨hz, decide_eq_true n⟩
          rw [hf] at this
          cases this
        have := few_of (by decide +kernel) all
        have l6 : six.length = 6 := rfl
        omega
      | cons z r =>
        rw [hf] at e
        rw [e] at at_
        have hz : z ∈ six.filter (fun z => decide (z ∉ zs)) := by
          rw [hf]
          exact List.mem_cons_self
        obtain ⟨h1, h2⟩ := List.mem_filter.mp hz
        exact ⟨_, _, .inl (SqL.of at_), at_0, k H2 z m (of_decide_eq_true h2) (all_of (P := nameB) (zs := six) (by decide +kernel) z h1)⟩
/-- so many different drawn names, as a list -/
def spNames : Sp := fun vs H Q _ => ∃ a n, vs = [.ref a, .int n] ∧ Pot a H ∧ 0 ≤ n ∧ n ≤ 6 ∧
  ∀ H1 p zs, Mv a H H1 → H p = none → H1 p = some (.lst (oneOf zs)) → (zs.length : Int) = n → zs.Nodup → (∀ z ∈ zs, nameB z = true) → Q (.ref p) H1
abbrev s_law_names : Stmt := topS 28
theorem sc_law_names : FnScope ["pot", "many", "found", "turn", "name"] ["pot", "many"] (defScope s_law_names) := ⟨rfl, rfl, rfl, by decide +kernel, rfl, by decide +kernel, by decide +kernel⟩
theorem ok_names {f fdip fch fnm ffr : Addr} {fd fddip fdch fdnm fdfr : FuncData} (T : Txt mg) (D : Def K mg "_law_names" s_law_names ["pot", "many"] f fd) (D_law_dip : Def K mg "_law_dip" s_law_dip ["pot", "total"] fdip fddip) (D_law_choose : Def K mg "_law_choose" s_law_choose ["pot", "items"] fch fdch)
    (D_law_name : Def K mg "_law_name" s_law_name ["pot"] fnm fdnm) (D_law_free : Def K mg "_law_free" s_law_free ["names"] ffr fdfr) : FnOk P w K mg base CX0 4 f fd ["pot", "many"] spNames := by
  have G_law_name : FnOk P w K mg base CX0 3 fnm fdnm ["pot"] spName := ok_name T D_law_name D_law_dip D_law_choose
  have G_law_free : FnOk P w K mg base CX0 1 ffr fdfr ["names"] (spFree K) := ok_free D_law_free
  refine D.F.ok sc_law_names (fun vs H Q E h => ?_) (fun cdv A outer s H vs Q E hr h => ?_)
  · obtain ⟨a, n, rfl, _⟩ := h
    rfl
  · obtain ⟨a, n, rfl, pot, n0, n6, k⟩ := h
    refine ⟨_, (pss_cons (ps_set (i := 2) sc_law_names.nd rfl (by first | exact Or.inl rfl | exact Or.inr rfl) (pe_lst pa_nil))
 (pss_cons (ps_for PassesOwn.never rfl (pi_range1 (by rfl) T.range (pa_cons (pv 1) pa_nil)) (pg_name (i := 3) sc_law_names.nd rfl (by first | exact Or.inl rfl | exact Or.inr rfl))
  (pss_cons (ps_set (i := 4) sc_law_names.nd rfl (by first | exact Or.inl rfl | exact Or.inr rfl) (pe_call G_law_name (hr.mono (by decide)) (by rfl) D_law_name.g D_law_name.F.kp D_law_name.b .nil pass0 (pa_cons (pv 0) pa_nil)))
 (pss_one (ps_expr (Z.k_bm (K := K) PySem.F.plainAttrs_list PySem.F.slot_list_append PySem.F.type_list_append mt_append (pv 2) (pa_cons (pe_ifExp (pt_cmpR (Z.k_notIn (K := K)) (pv 4) (pv 2) (by rfl)) (pv 4) (pe_call G_law_free (hr.mono (by decide)) (by rfl) D_law_free.g D_law_free.F.kp D_law_free.b .nil pass0 (pa_cons (pv 2) pa_nil))) pa_nil))))))
 (pss_one (ps_ret (pv 2))))), ?_⟩
    walk_at "st"
    refine ⟨Nat.zero_le _, fun l nl => ?_⟩
    have m0 : Mv a H (upd H l (.lst [])) := (Mv.refl pot).new nl
    have la : l ≠ a := Mv.ne pot (Mv.refl pot) nl
    walk_at "st"
    refine ⟨by omega, by omega, loop walkR (fun i σ2 H2 => ∃ zs t3 t4, σ2 = [some (.ref a), some (.int n), some (.ref l), t3, t4] ∧ Mv a H H2 ∧ H2 l = some (.lst (oneOf zs)) ∧ zs.length = i ∧ zs.Nodup ∧ ∀ z ∈ zs, nameB z = true)
      ⟨[], none, none, rfl, m0, upd_same, rfl, List.nodup_nil, fun z hz => nomatch hz⟩ (fun _ _ _ _ => trivial) ?_ ?_⟩
    · rintro i x σ2 H2 hi rfl ⟨zs, t3, t4, rfl, m, hl, many, nd, hz⟩
      walk_at "st"
      refine ⟨a, rfl, m.pot, fun H3 nm mc hnm => ?_⟩
      have m3 := m.trans mc
      have hl3 := mc.at la hl
      walk_at "st"
      refine ⟨.inl ⟨rfl, _, SqL.of hl3⟩, ?_⟩
      have app : ∀ (H4 : Hp) (z : Str), Same H3 H4 → z ∉ zs → nameB z = true → rAppend (.ref l) [.str z] H4 (fun _ H5 => ∃ ws t3 t4, [some (V.ref a), some (.int n), some (.ref l), some (.int (0 + (i : Int))), some (.str nm)] = [some (.ref a), some (.int n), some (.ref l), t3, t4] ∧ Mv a H H5 ∧ H5 l = some (.lst (oneOf ws)) ∧ ws.length = i + 1 ∧ ws.Nodup ∧ ∀ z ∈ ws, nameB z = true) := by
        intro H4 z s4 nz hn
        have m4 : Mv a H H4 := ⟨fun b o e => by
          obtain ⟨ne, e3⟩ := hid_some (m3.same b o e)
          rw [hid_ne ne]
          exact s4 b o e3, by
          obtain ⟨p, q, r, e, rest⟩ := m3.pot
          exact ⟨p, q, r, s4 _ _ e, rest⟩⟩
        refine ⟨l, oneOf zs, .str z, rfl, rfl, s4 _ _ hl3, ?_, zs ++ [z], _, _, rfl, m4.upd pot nl, ?_, ?_, ?_, ?_⟩
        · rw [List.length_map, many]
          exact Nat.lt_trans (show i < 1000000 by omega) (by decide)
        · rw [upd_same]
          show some (HO.lst (oneOf zs ++ [V.str z])) = some (HO.lst (oneOf (zs ++ [z])))
          rw [show oneOf (zs ++ [z]) = oneOf zs ++ [V.str z] from List.map_append]
        · rw [List.length_append, many]
          rfl
        · refine List.nodup_append.mpr ⟨nd, by simp, ?_⟩
          intro x hx y hy e
          rw [List.mem_singleton.mp hy] at e
          exact nz (by rw [← e]; exact hx)
        · intro y hy
          rcases List.mem_append.mp hy with hy | hy
          · exact hz y hy
          · rw [List.mem_singleton.mp hy]
            exact hn
      walk_at "st"
      refine ⟨l, oneOf zs, rfl, .inl (SqL.of hl3), rfl, flat_strs zs, ?_⟩
      rw [inV_str]
      walk_at "st"
      by_cases hin : nm ∈ zs
      · rw [decide_eq_true hin]
        refine iteF ?_
        walk_at "st"
        refine ⟨l, zs, rfl, SqL.of hl3, by omega, fun H4 z s4 nz hn => ?_⟩
        walk_at "st"
        exact app H4 z s4 nz hn
      · rw [decide_eq_false hin]
        refine iteT ?_
        walk_at "st"
        exact app H3 nm (Same.refl _) hin hnm
    · rintro σ2 H2 ⟨zs, t3, t4, rfl, m, hl, many, nd, hz⟩
      walk_at "st"
      exact k H2 l zs m nl hl (by omega) nd hz
/-- drawn signs -/
def spSigns : Sp := fun vs H Q _ => ∃ a, vs = [.ref a] ∧ Pot a H ∧ ∀ H1 z, Mv a H H1 → signsB z = true → Q (.str z) H1
def lettersB (z : Str) : Bool := wordB 26 z && decide z.cps.toList.Nodup
abbrev s_law_signs : Stmt := topS 29
theorem sc_law_signs : FnScope ["pot", "letters"] ["pot"] (defScope s_law_signs) := ⟨rfl, rfl, rfl, by decide +kernel, rfl, by decide +kernel, by decide +kernel⟩
theorem ok_signs {f fdip fch fsh : Addr} {fd fddip fdch fdsh : FuncData} (T : Txt mg) (D : Def K mg "_law_signs" s_law_signs ["pot"] f fd) (D_law_dip : Def K mg "_law_dip" s_law_dip ["pot", "total"] fdip fddip) (D_law_choose : Def K mg "_law_choose" s_law_choose ["pot", "items"] fch fdch)
    (D_law_shuffled : Def K mg "_law_shuffled" s_law_shuffled ["pot", "items"] fsh fdsh) : FnOk P w K mg base CX0 3 f fd ["pot"] spSigns := by
  have G_law_dip : FnOk P w K mg base CX0 1 fdip fddip ["pot", "total"] spDip := ok_dip T D_law_dip
  have G_law_choose : FnOk P w K mg base CX0 2 fch fdch ["pot", "items"] (spChoose K) := ok_choose T D_law_choose D_law_dip
  have G_law_shuffled : FnOk P w K mg base CX0 2 fsh fdsh ["pot", "items"] (spShuffled K) := ok_shuffled T D_law_shuffled D_law_dip
  refine D.F.ok sc_law_signs (fun vs H Q E h => ?_) (fun cdv A outer s H vs Q E hr h => ?_)
  · obtain ⟨a, rfl, _⟩ := h
    rfl
  · obtain ⟨a, rfl, pot, k⟩ := h
    refine ⟨_, (pss_cons (ps_set (i := 1) sc_law_signs.nd rfl (by first | exact Or.inl rfl | exact Or.inr rfl) (pe_call G_law_choose (hr.mono (by decide)) (by rfl) D_law_choose.g D_law_choose.F.kp D_law_choose.b .nil pass0 (pa_cons (pv 0) (pa_cons (pe_lst (pa_cons pe_str (pa_cons pe_str (pa_cons pe_str (pa_cons pe_str (pa_cons pe_str (pa_cons pe_str pa_nil))))))) pa_nil))))
 (pss_one (ps_ret (Z.k_join (K := K) pe_str (pe_callB (Z.k_sortedS (K := K)) (by rfl) T.sorted (by decide +kernel) (pa_cons (pe_slice (Z.k_cut (K := K)) (pe_call G_law_shuffled (hr.mono (by decide)) (by rfl) D_law_shuffled.g D_law_shuffled.F.kp D_law_shuffled.b .nil pass0 (pa_cons (pv 0) (pa_cons (pv 1) pa_nil))) po_none (po_some (pe_op (Z.k_add (K := K)) pe_int (pe_call G_law_dip (hr.mono (by decide)) (by rfl) D_law_dip.g D_law_dip.F.kp D_law_dip.b .nil pass0 (pa_cons (pv 0) (pa_cons pe_int pa_nil)))))) pa_nil)))))), ?_⟩
    walk_at "st"
    refine ⟨by show 6 ≤ sizeLine; decide, fun p np => ?_⟩
    have m1 : Mv a H _ := (Mv.refl pot).new (o := .lst (oneOf ["ab", "abc", "abcd", "aez", "abcdefghijklmnopqrstuvwxyz", "k"])) np
    walk_at "st"
    refine ⟨a, m1.pot, .inl ⟨p, oneOf ["ab", "abc", "abcd", "aez", "abcdefghijklmnopqrstuvwxyz", "k"], rfl, Beside.lst (Mv.ne pot (Mv.refl pot) np) upd_same, by decide, by decide, fun H1 v mc hv => ?_⟩⟩
    obtain ⟨lt, rfl, hlt⟩ := one_of (P := fun z => lettersB z = true) (all_of (by decide +kernel)) hv
    unfold lettersB at hlt
    rw [Bool.and_eq_true, decide_eq_true_eq] at hlt
    obtain ⟨hw, hnd⟩ := hlt
    obtain ⟨l0, l26, hlet⟩ := wordB_len hw
    have m2 := m1.trans mc
    walk_at "st"
    refine ⟨a, .str lt, signsV lt, rfl, m2.pot, .inr ⟨lt, rfl, rfl⟩, ?_, fun H2 p2 ys ms np2 hp2 perm => ?_⟩
    · unfold signsV
      rw [List.length_map, Array.length_toList]
      exact Nat.lt_of_le_of_lt l26 (by decide)
    obtain ⟨cs, pc, rfl⟩ := perm_map_inv (g := fun v => match v with | .str z => z.cps.getD 0 0 | _ => 0) (fun _ => rfl) perm
    have m3 := m2.trans ms
    have hp2f : H p2 = none := m2.free pot np2
    walk_at "st"
    refine ⟨a, 4, rfl, m3.pot, by decide, by decide, fun H3 r md r0 r1 => ?_⟩
    have m4 := m3.trans md
    have hp3 : H3 p2 = _ := md.at (Mv.ne pot (Mv.refl pot) hp2f) hp2
    walk_at "st"
    refine .inl ⟨p2, _, rfl, SqL.of hp3, fun p4 np4 => ?_⟩
    have m5 := m4.new (o := .lst (cutV (cs.map fun c => V.str ⟨#[c]⟩) none (some (1 + r)))) np4
    rw [cut_take _ (by omega), ← List.map_take] at m5 ⊢
    walk_at "st"
    have sub : (cs.take (1 + r).toNat).Sublist cs := List.take_sublist _ _
    have hlen : 0 < (cs.take (1 + r).toNat).length ∧ (cs.take (1 + r).toNat).length ≤ 4 := by
      rw [List.length_take]
      have : cs.length = lt.length := by
        rw [pc.length_eq, Array.length_toList]
        rfl
      omega
    refine ⟨(cs.take (1 + r).toNat).map fun c => (⟨#[c]⟩ : Str), ?_, ?_, fun ys p5 py sorted np5 => ?_⟩
    · rw [List.map_map]
      exact SqL.of upd_same
    · rw [List.length_map]
      omega
    obtain ⟨ds, pd, rfl⟩ := perm_map_inv (g := fun z : Str => z.cps.getD 0 0) (fun _ => rfl) py
    have dl : ds.length = (cs.take (1 + r).toNat).length := pd.length_eq
    walk_at "st"
    refine join_of (cs := ds) (SqL.of ?_) (by omega) fun z hz => ?_
    · rw [upd_same, List.map_map]
      rfl
    refine k _ _ (m5.new np5) ?_
    have nd : ds.Nodup := pd.nodup_iff.mpr ((pc.nodup_iff.mpr hnd).sublist sub)
    unfold signsB
    rw [wordB_of hz (by omega) (by omega) (fun c hc => hlet c (pc.mem_iff.mp (sub.subset (pd.mem_iff.mp hc)))), hz, up_of ds sorted nd]
    rfl
end
end Z
/-! Data of any depth on the heap: lists, tuples, dicts, texts, numbers. -/
namespace Z
open PySem PySem.Spec PyProof.Rows L2 G
mutual
/-- v is the data d -/
inductive Dz (K : PySem.W.Frag) (H : Hp) : V → PyData → Prop
  | non : Dz K H .non .none
  | bl (b : Bool) : Dz K H (.bl b) (.bool b)
  | int (i : Int) : Dz K H (.int i) (.int i)
  | str (x : Str) : Dz K H (.str x) (.str x)
  | lst {a : Addr} {xs : List V} {ds : List PyData} : SqL K H a xs → DzAll K H xs ds → Dz K H (.ref a) (.list ds)
  | tup {a : Addr} {xs : List V} {ds : List PyData} : SqT K H a xs → DzAll K H xs ds → Dz K H (.ref a) (.tuple ds)
  | dic {a : Addr} {kvs : List (Key × V)} {es : List (PyData × PyData)} : H a = some (.dK kvs) → DzAll K H (kvs.map fun p => kV p.1) (es.map (·.1)) → DzAll K H (kvs.map (·.2)) (es.map (·.2)) → Dz K H (.ref a) (.dict es)
inductive DzAll (K : PySem.W.Frag) (H : Hp) : List V → List PyData → Prop
  | nil : DzAll K H [] []
  | cons {v : V} {vs : List V} {d : PyData} {ds : List PyData} : Dz K H v d → DzAll K H vs ds → DzAll K H (v :: vs) (d :: ds)
end
section
variable {K : PySem.W.Frag} {H H1 : Hp}
mutual
theorem Dz.same (s : Same H H1) : ∀ (d : PyData) (v : V), Dz K H v d → Dz K H1 v d
  | .none, _, h => by
    cases h
    exact .non
  | .bool b, _, h => by
    cases h
    exact .bl b
  | .int i, _, h => by
    cases h
    exact .int i
  | .str x, _, h => by
    cases h
    exact .str x
  | .list ds, _, h => by
    cases h with
    | lst a b => exact .lst (s.seq a) (DzAll.same s ds _ b)
  | .tuple ds, _, h => by
    cases h with
    | tup a b => exact .tup (same_sqt s a) (DzAll.same s ds _ b)
  | .dict es, _, h => by
    cases h with
    | dic a b c => exact .dic (s _ _ a) (DzAll.sameK s es _ b) (DzAll.sameV s es _ c)
theorem DzAll.same (s : Same H H1) : ∀ (ds : List PyData) (vs : List V), DzAll K H vs ds → DzAll K H1 vs ds
  | [], _, h => by
    cases h
    exact .nil
  | d :: ds, _, h => by
    cases h with
    | cons a b => exact .cons (Dz.same s d _ a) (DzAll.same s ds _ b)
theorem DzAll.sameK (s : Same H H1) : ∀ (es : List (PyData × PyData)) (vs : List V), DzAll K H vs (es.map (·.1)) → DzAll K H1 vs (es.map (·.1))
  | [], _, h => by
    cases h
    exact .nil
  | (k, x) :: es, _, h => by
    cases h with
    | cons a b => exact .cons (Dz.same s k _ a) (DzAll.sameK s es _ b)
theorem DzAll.sameV (s : Same H H1) : ∀ (es : List (PyData × PyData)) (vs : List V), DzAll K H vs (es.map (·.2)) → DzAll K H1 vs (es.map (·.2))
  | [], _, h => by
    cases h
    exact .nil
  | (k, x) :: es, _, h => by
    cases h with
    | cons a b => exact .cons (Dz.same s x _ a) (DzAll.sameV s es _ b)
end
theorem same_hid {a : Addr} : Same (hid a H) H := fun _ _ e => (hid_some e).2
theorem Dz.mv {a : Addr} {v : V} {d : PyData} (h : Dz K (hid a H) v d) (m : Mv a H H1) : Dz K (hid a H1) v d := Dz.same m.same d v h
theorem DzAll.mv {a : Addr} {vs : List V} {ds : List PyData} (h : DzAll K (hid a H) vs ds) (m : Mv a H H1) : DzAll K (hid a H1) vs ds := DzAll.same m.same ds vs h
theorem Dz.un {a : Addr} {v : V} {d : PyData} (h : Dz K (hid a H) v d) : Dz K H v d := Dz.same same_hid d v h
theorem DzAll.un {a : Addr} {vs : List V} {ds : List PyData} (h : DzAll K (hid a H) vs ds) : DzAll K H vs ds := DzAll.same same_hid ds vs h
theorem DzAll.len : ∀ {vs : List V} {ds : List PyData}, DzAll K H vs ds → vs.length = ds.length
  | [], [], _ => rfl
  | _ :: vs, _ :: ds, h => by
    cases h with
    | cons _ b => exact congrArg (· + 1) (DzAll.len b)
theorem DzAll.app : ∀ {vs ws : List V} {ds es : List PyData}, DzAll K H vs ds → DzAll K H ws es → DzAll K H (vs ++ ws) (ds ++ es)
  | [], _, [], _, _, h => h
  | _ :: vs, _, _ :: ds, _, h, g => by
    cases h with
    | cons a b => exact .cons a (DzAll.app b g)
theorem DzAll.take : ∀ {vs : List V} {ds : List PyData} (n : Nat), DzAll K H vs ds → DzAll K H (vs.take n) (ds.take n)
  | _, _, 0, _ => .nil
  | [], [], _ + 1, h => .nil
  | _ :: vs, _ :: ds, n + 1, h => by
    cases h with
    | cons a b => exact .cons a (DzAll.take n b)
theorem DzAll.drop : ∀ {vs : List V} {ds : List PyData} (n : Nat), DzAll K H vs ds → DzAll K H (vs.drop n) (ds.drop n)
  | _, _, 0, h => h
  | [], [], _ + 1, h => .nil
  | _ :: vs, _ :: ds, n + 1, h => by
    cases h with
    | cons a b => exact DzAll.drop n b
theorem DzAll.get : ∀ {vs : List V} {ds : List PyData} {i : Nat} {v : V}, DzAll K H vs ds → vs[i]? = some v → ∃ d, ds[i]? = some d ∧ Dz K H v d
  | _ :: vs, _ :: ds, 0, v, h, e => by
    cases h with
    | cons a b =>
      have e2 := Option.some.inj e
      subst e2
      exact ⟨_, rfl, a⟩
  | _ :: vs, _ :: ds, i + 1, v, h, e => by
    cases h with
    | cons a b => exact DzAll.get (i := i) b e
  | [], [], i, v, h, e => by simp at e
theorem DzAll.strs : ∀ zs : List Str, DzAll K H (zs.map V.str) (zs.map PyData.str)
  | [] => .nil
  | z :: zs => .cons (.str z) (DzAll.strs zs)
end
/-- a pair of a name and signs -/
abbrev prD (p : Str × Str) : PyData := .tuple [.str p.1, .str p.2]
/-- sources and sinks as they are drawn -/
structure Parts (most : Int) (ps qs : List (Str × Str)) : Prop where
  one : 1 ≤ ps.length
  few : (ps.length : Int) ≤ most
  few2 : (qs.length : Int) ≤ most
  nd : ((ps ++ qs).map (·.1)).Nodup
  name : ∀ p ∈ ps ++ qs, nameB p.1 = true
  sig : ∀ p ∈ ps ++ qs, signsB p.2 = true
end Z
local macro_rules | `(tactic| walk_at "st") => `(tactic| repeat (first
  | ((with_reducible refine' Z.s_var ?h ?_); (case h => exact rfl))
  | with_reducible refine Z.s_c ?_
  | with_reducible refine Z.s_op ?_
  | with_reducible refine Z.s_un ?_
  | with_reducible refine Z.s_nil ?_
  | with_reducible refine Z.s_cons ?_
  | with_reducible refine Z.s_cb ?_
  | with_reducible refine Z.s_call ?_
  | with_reducible refine Z.s_tup ?_
  | with_reducible refine Z.s_lst ?_
  | with_reducible refine Z.s_test ?_
  | with_reducible refine Z.s_B ?_
  | with_reducible refine Z.s_and ?_
  | with_reducible refine Z.s_or ?_
  | with_reducible refine Z.s_not ?_
  | with_reducible refine Z.s_andV ?_
  | with_reducible refine Z.s_orV ?_
  | with_reducible refine Z.s_notV ?_
  | with_reducible refine Z.s_if ?_
  | with_reducible refine Z.s_chain ?_
  | with_reducible refine Z.s_seq ?_
  | with_reducible refine Z.s_next ?_
  | with_reducible refine Z.s_drop ?_
  | with_reducible refine Z.s_ret ?_
  | with_reducible refine Z.s_ifS ?_
  | with_reducible refine Z.s_asg ?_
  | with_reducible refine Z.s_name ?_
  | with_reducible refine Z.s_par ?_
  | with_reducible refine Z.s_item ?_
  | with_reducible refine Z.s_part ?_
  | with_reducible refine Z.s_noPart ?_
  | with_reducible refine Z.s_cut ?_
  | with_reducible refine Z.s_bm0 ?_
  | with_reducible refine Z.s_bm ?_
  | with_reducible refine Z.s_bl (P := _) ?_
  | with_reducible refine Z.s_two (P := _) ?_
  | with_reducible refine Z.s_int (P := _) ?_
  | with_reducible refine Z.a_addI ?_
  | with_reducible refine Z.a_subI ?_
  | with_reducible refine Z.a_ltI ?_
  | with_reducible refine Z.a_leI ?_
  | with_reducible refine Z.a_gtI ?_
  | with_reducible refine Z.a_geI ?_
  | with_reducible refine Z.a_eqI ?_
  | with_reducible refine Z.a_neI ?_
  | with_reducible refine Z.a_eqS ?_
  | with_reducible refine Z.a_neS ?_
  | with_reducible refine Z.a_eqB ?_
  | with_reducible refine Z.a_neB ?_
  | with_reducible refine Z.a_isN ?_
  | with_reducible refine Z.a_notN ?_
  | with_reducible refine Z.a_setL ?_
  | with_reducible refine Z.a_int ?_
  | with_reducible refine Z.a_intB ?_
  | with_reducible refine Z.a_abs ?_
  | with_reducible refine Z.a_max ?_
  | with_reducible refine Z.a_min ?_
  | with_reducible refine Z.s_lc ?_
  | with_reducible refine Z.s_for ?_
  | with_reducible refine Z.s_iList ?_
  | with_reducible refine Z.s_iTup ?_
  | with_reducible refine Z.s_iStr ?_
  | with_reducible refine Z.s_rng1 ?_
  | with_reducible refine Z.s_rng2 ?_
  | with_reducible refine Z.s_gtup ?_
  | with_reducible refine Z.s_gcons ?_
  | with_reducible refine Z.s_gnil ?_
  | with_reducible refine Z.s_yes ?_
  | with_reducible refine Z.s_ref (P := _) ?_
  | with_reducible refine Z.s_str (P := _) ?_
  | with_reducible refine Z.s_one (P := _) ?_
  | with_reducible refine Z.s_m1 ?_
  | with_reducible refine Z.s_m0 ?_
  | with_reducible refine Z.s_isStr ?_))
namespace Z
open PySem PySem.Spec PyProof.Rows L2 G
section
variable {P : Program} {w : World} {K : PySem.W.Frag} {mg : Str → Option Value} {base : Heap}
/-- drawn sources and sinks -/
def spParts (K : PySem.W.Frag) : Sp := fun vs H Q _ => ∃ a n, vs = [.ref a, .int n] ∧ Pot a H ∧ 1 ≤ n ∧ n ≤ 3 ∧
  ∀ H1 p t1 t2 ps qs, Mv a H H1 → H p = none → H1 p = some (.lst [.ref t1, .ref t2]) → Dz K (hid a H1) (.ref t1) (.tuple (ps.map prD)) → Dz K (hid a H1) (.ref t2) (.tuple (qs.map prD)) → Parts n ps qs → Q (.ref p) H1
theorem same_hidden {L : Addr} {H H1 : Hp} (s : Same H H1) : Same (hid L H) (hid L H1) := fun b o e => by
  obtain ⟨n, e⟩ := hid_some e
  rw [hid_ne n]
  exact s b o e
theorem hid_upd {L : Addr} {H : Hp} {o : HO} : hid L (upd H L o) = hid L H := by
  funext b
  by_cases e : b = L
  · rw [show hid L (upd H L o) b = none from if_pos e, show hid L H b = none from if_pos e]
  · rw [hid_ne e, hid_ne e, upd_ne e]
theorem hid_comm {L a : Addr} {H : Hp} : hid L (hid a H) = hid a (hid L H) := by
  funext b
  unfold hid
  by_cases e1 : b = L <;> by_cases e2 : b = a <;> simp [e1, e2]
theorem zip_next {zs ss : List Str} {i : Nat} {x y : Str} (hx : zs[i]? = some x) (hs : ss.length = i) : (zs.take (i + 1)).zip (ss ++ [y]) = (zs.take i).zip ss ++ [(x, y)] := by
  have hi : i < zs.length := (List.getElem?_eq_some_iff.mp hx).1
  rw [List.take_add_one, hx]
  show List.zip (zs.take i ++ [x]) (ss ++ [y]) = _
  rw [List.zip_append (by rw [List.length_take]; omega)]
  rfl
abbrev s_law_parts : Stmt := topS 30
theorem sc_law_parts : FnScope ["pot", "most", "many", "more", "pairs", "name"] ["pot", "most"] (defScope s_law_parts) := ⟨rfl, rfl, rfl, by decide +kernel, rfl, by decide +kernel, by decide +kernel⟩
theorem ok_parts {f fdip fch fsh fnm ffr fns fsg : Addr} {fd fddip fdch fdsh fdnm fdfr fdns fdsg : FuncData} (T : Txt mg) (D : Def K mg "_law_parts" s_law_parts ["pot", "most"] f fd) (D_law_dip : Def K mg "_law_dip" s_law_dip ["pot", "total"] fdip fddip) (D_law_choose : Def K mg "_law_choose" s_law_choose ["pot", "items"] fch fdch)
    (D_law_shuffled : Def K mg "_law_shuffled" s_law_shuffled ["pot", "items"] fsh fdsh) (D_law_name : Def K mg "_law_name" s_law_name ["pot"] fnm fdnm) (D_law_free : Def K mg "_law_free" s_law_free ["names"] ffr fdfr)
    (D_law_names : Def K mg "_law_names" s_law_names ["pot", "many"] fns fdns) (D_law_signs : Def K mg "_law_signs" s_law_signs ["pot"] fsg fdsg) : FnOk P w K mg base CX0 5 f fd ["pot", "most"] (spParts K) := by
  have G_law_dip : FnOk P w K mg base CX0 1 fdip fddip ["pot", "total"] spDip := ok_dip T D_law_dip
  have G_law_names : FnOk P w K mg base CX0 4 fns fdns ["pot", "many"] spNames := ok_names T D_law_names D_law_dip D_law_choose D_law_name D_law_free
  have G_law_signs : FnOk P w K mg base CX0 3 fsg fdsg ["pot"] spSigns := ok_signs T D_law_signs D_law_dip D_law_choose D_law_shuffled
  refine D.F.ok sc_law_parts (fun vs H Q E h => ?_) (fun cdv A outer s H vs Q E hr h => ?_)
  · obtain ⟨a, n, rfl, _⟩ := h
    rfl
  · obtain ⟨a, n, rfl, pot, n1, n3, k⟩ := h
    refine ⟨_, (pss_cons (ps_par (i := 2) (j := 3) (by rfl) sc_law_parts.nd rfl rfl (by decide) rfl rfl (pa_cons (pe_op (Z.k_add (K := K)) pe_int (pe_call G_law_dip (hr.mono (by decide)) (by rfl) D_law_dip.g D_law_dip.F.kp D_law_dip.b .nil pass0 (pa_cons (pv 0) (pa_cons (pv 1) pa_nil)))) (pa_cons (pe_call G_law_dip (hr.mono (by decide)) (by rfl) D_law_dip.g D_law_dip.F.kp D_law_dip.b .nil pass0 (pa_cons (pv 0) (pa_cons (pe_op (Z.k_add (K := K)) (pv 1) pe_int) pa_nil))) pa_nil)) (by rfl))
 (pss_cons (ps_setLc (i := 4) (own := [("name", 5)]) (by rfl) sc_law_parts.nd rfl rfl (sw_true rfl rfl rfl (by decide +kernel)) (pi_list (pe_call G_law_names (hr.mono (by decide)) (by rfl) D_law_names.g D_law_names.F.kp D_law_names.b .nil pass0 (pa_cons (pv 0) (pa_cons (pe_op (Z.k_add (K := K)) (pv 2) (pv 3)) pa_nil)))) (blkOk_by (own := [("name", 5)]) (N := ["pot", "most", "many", "more", "pairs", "name"]) (sc := defScope s_law_parts) (by decide +kernel))
   (fun _ _ _ _ _ => (pg_name (i := 5) sc_law_parts.nd rfl (by first | exact Or.inl rfl | exact Or.inr rfl))) (fun _ _ _ _ _ => pts_nil) (fun _ _ _ _ _ => (pe_tup (pa_cons (pv 5) (pa_cons (pe_call G_law_signs (hr.mono (by decide)) (by rfl) D_law_signs.g D_law_signs.F.kp D_law_signs.b .nil pass0 (pa_cons (pv 0) pa_nil)) pa_nil)))))
 (pss_one (ps_ret (pe_lst (pa_cons (pe_callTy (Z.k_tuple (K := K)) (by rfl) T.tuple (by decide +kernel) (pa_cons (pe_slice (Z.k_cut (K := K)) (pv 4) po_none (po_some (pv 2))) pa_nil)) (pa_cons (pe_callTy (Z.k_tuple (K := K)) (by rfl) T.tuple (by decide +kernel) (pa_cons (pe_slice (Z.k_cut (K := K)) (pv 4) (po_some (pv 2)) po_none) pa_nil)) pa_nil))))))), ?_⟩
    walk_at "st"
    refine ⟨a, n, rfl, pot, by omega, by omega, fun H1 r1 m1 r10 r11 => ?_⟩
    walk_at "st"
    refine ⟨a, n + 1, rfl, m1.pot, by omega, by omega, fun H2 r2 m2 r20 r21 => ?_⟩
    have m02 := m1.trans m2
    walk_at "st"
    refine ⟨a, 1 + r1 + r2, rfl, m02.pot, by omega, by omega, fun H3 p zs m3 np hp many nd hz => ?_⟩
    have m03 := m02.trans m3
    have npH : H p = none := m02.free pot np
    have pa : p ≠ a := Mv.ne pot (Mv.refl pot) npH
    walk_at "st"
    have fr : ∀ L, H3 L = none → H L = none ∧ L ≠ p := fun L e => ⟨m03.free pot e, fun z => by
      rw [z, hp] at e
      cases e⟩
    refine ⟨⟨_, SqL.of hp⟩, comp2 (walkL (xs := oneOf zs)) (fun H4 => Mv a H H4 ∧ H4 p = some (.lst (oneOf zs))) (fun L i acc H4 => ∃ ss : List Str, ss.length = i ∧ (∀ s ∈ ss, signsB s = true) ∧ DzAll K (hid L (hid a H4)) acc (((zs.take i).zip ss).map prD)) ⟨m03, hp⟩ ?_ ?_ ?_ (fun H4 m => SqL.of m.2) ?_ ?_⟩
    · rintro L o H4 e ⟨m, h4⟩
      refine ⟨m.upd pot (fr L e).1, ?_⟩
      rw [upd_ne (fr L e).2.symm]
      exact h4
    · rintro L o i acc H4 e _ ⟨ss, h1, h2, h3⟩
      refine ⟨ss, h1, h2, ?_⟩
      rw [hid_comm, hid_upd, ← hid_comm]
      exact h3
    · intro L _
      exact ⟨[], rfl, by simp, .nil⟩
    · rintro L i acc x H4 fresh hi hx len ⟨m, h4⟩ at_ ⟨ss, sl, hss, dz⟩
      have hi2 : i < zs.length := by
        rw [List.length_map] at hi
        exact hi
      have ex : x = .str zs[i] := by
        rw [List.getElem?_map, List.getElem?_eq_getElem hi2] at hx
        exact (Option.some.inj hx).symm
      rw [ex]
      have La : L ≠ a := Mv.ne pot (Mv.refl pot) (fr L fresh).1
      refine turn1 rfl ?_
      walk_at "st"
      refine ⟨a, rfl, m.pot, fun H5 sg mc hsg => ?_⟩
      walk_at "st"
      refine ⟨by show 2 ≤ sizeLine; decide, fun t nt => ?_⟩
      have m5 := (m.trans mc)
      have at5 : H5 L = some (.lst acc) := mc.at La at_
      have ta : t ≠ a := Mv.ne pot m5 nt
      have tL : t ≠ L := (ne_of_none at5 nt).symm
      refine put2 (acc := acc) ?_ ?_ ?_ (by omega) len ⟨m5.new nt, ?_⟩ ⟨ss ++ [sg], ?_, ?_, ?_⟩
      · rintro o H6 ⟨m, h6⟩
        refine ⟨m.upd pot (fr L fresh).1, ?_⟩
        rw [upd_ne (fr L fresh).2.symm]
        exact h6
      · rintro o i acc H6 _ ⟨ss, h1, h2, h3⟩
        refine ⟨ss, h1, h2, ?_⟩
        rw [hid_comm, hid_upd, ← hid_comm]
        exact h3
      · rw [upd_ne tL.symm]
        exact at5
      · rw [upd_ne (ne_of_none (mc.at pa h4) nt)]
        exact mc.at pa h4
      · rw [List.length_append, sl]
        rfl
      · intro s hs
        rcases List.mem_append.mp hs with hs | hs
        · exact hss s hs
        · rw [List.mem_singleton.mp hs]
          exact hsg
      · rw [zip_next (List.getElem?_eq_getElem hi2) sl, List.map_append]
        refine DzAll.app (DzAll.same (same_hidden (mc.same.trans ((Mv.refl m5.pot).new nt).same)) _ _ dz) ?_
        refine .cons (.tup (SqT.of ?_) (.cons (.str _) (.cons (.str _) .nil))) .nil
        rw [hid_ne tL, hid_ne ta, upd_same]
    · rintro L acc H4 fresh len ⟨m, h4⟩ at_ ⟨ss, sl, hss, dz⟩
      have La : L ≠ a := Mv.ne pot (Mv.refl pot) (fr L fresh).1
      rw [List.length_map] at sl
      have full : zs.take (oneOf zs).length = zs := by
        rw [List.length_map]
        exact List.take_length
      rw [full] at dz
      have dz2 : DzAll K (hid a H4) acc ((zs.zip ss).map prD) := DzAll.same same_hid _ _ dz
      walk_at "st"
      refine .inl ⟨L, acc, rfl, SqL.of at_, fun p4 np4 => ?_⟩
      rw [cut_take _ (by omega)]
      have q4 : Mv a H4 (upd H4 p4 (.lst (acc.take (1 + r1).toNat))) := (Mv.refl m.pot).new np4
      walk_at "st"
      refine ⟨_, .inl ⟨SqL.of upd_same, fun t1 nt1 => ?_⟩⟩
      have q5 := q4.new (o := .tup (acc.take (1 + r1).toNat)) nt1
      have at5 := q5.at La at_
      have ta1 : t1 ≠ a := Mv.ne m.pot q4 nt1
      walk_at "st"
      refine .inl ⟨L, acc, rfl, SqL.of at5, fun p6 np6 => ?_⟩
      rw [cut_drop _ (by omega)]
      have q6 := q5.new (o := .lst (acc.drop (1 + r1).toNat)) np6
      have tn1 := ne_of_none upd_same np6
      walk_at "st"
      refine ⟨_, .inl ⟨SqL.of upd_same, fun t2 nt2 => ?_⟩⟩
      have q7 := q6.new (o := .tup (acc.drop (1 + r1).toNat)) nt2
      have ta2 : t2 ≠ a := Mv.ne m.pot q6 nt2
      walk_at "st"
      refine ⟨by show 2 ≤ sizeLine; decide, fun p8 np8 => ?_⟩
      have q8 := q7.new (o := .lst [.ref t1, .ref t2]) np8
      have zl : (zs.zip ss).length = zs.length := by
        rw [List.length_zip, sl, Nat.min_self]
      have e1 : ((zs.zip ss).map prD).take (1 + r1).toNat = ((zs.zip ss).take (1 + r1).toNat).map prD := (List.map_take ..).symm
      have e2 : ((zs.zip ss).map prD).drop (1 + r1).toNat = ((zs.zip ss).drop (1 + r1).toNat).map prD := (List.map_drop ..).symm
      have all : (zs.zip ss).take (1 + r1).toNat ++ (zs.zip ss).drop (1 + r1).toNat = zs.zip ss := List.take_append_drop _ _
      have fst : (zs.zip ss).map (·.1) = zs := List.map_fst_zip (by omega)
      refine k _ p8 t1 t2 ((zs.zip ss).take (1 + r1).toNat) ((zs.zip ss).drop (1 + r1).toNat) (m.trans q8) ((m.trans q7).free pot np8) upd_same ?_ ?_ ?_
      · rw [← e1]
        refine .tup (SqT.of ?_) ((dz2.take _).mv q8)
        rw [hid_ne ta1]
        exact ((((Mv.refl q5.pot).new np6).new nt2).new np8).at ta1 upd_same
      · rw [← e2]
        refine .tup (SqT.of ?_) ((dz2.drop _).mv q8)
        rw [hid_ne ta2]
        exact ((Mv.refl q7.pot).new np8).at ta2 upd_same
      · refine ⟨?_, ?_, ?_, ?_, ?_, ?_⟩
        · rw [List.length_take]
          omega
        · rw [List.length_take]
          omega
        · rw [List.length_drop]
          omega
        · rw [all, fst]
          exact nd
        · rw [all]
          intro q hq
          exact hz q.1 (List.of_mem_zip hq).1
        · rw [all]
          intro q hq
          exact hss q.2 (List.of_mem_zip hq).2
end
end Z
/-! repr of data of any depth. -/
namespace Z
open PySem PySem.Spec PyProof.Rows L2 G
section
variable {X : Cx} {pins : List (Addr × Obj)} {σ : L2.St} {H : Hp} {s : Shared}
theorem vals_keys {P : Program} {w : World} : ∀ {kvs : List (Key × V)} {vs : List (Key × Value)} {es : List DictEntry}, KV kvs vs → Pairs (mixKind P w) es vs → Vals (kvs.map fun p => kV p.1) (es.map (·.key))
  | [], [], [], .nil, .nil => .nil
  | (k, v) :: kvs, (j, u) :: vs, e :: es, .cons ⟨a, b⟩ r, .cons c d q => by
    have a2 : k = j := a
    subst a2
    exact .cons (keyIs_rel c) (vals_keys r q)
theorem vals_vals {P : Program} {w : World} : ∀ {kvs : List (Key × V)} {vs : List (Key × Value)} {es : List DictEntry}, KV kvs vs → Pairs (mixKind P w) es vs → Vals (kvs.map (·.2)) (es.map (·.val))
  | [], [], [], .nil, .nil => .nil
  | (k, v) :: kvs, (j, u) :: vs, e :: es, .cons ⟨a, b⟩ r, .cons c d q => by
    refine .cons ?_ (vals_vals r q)
    show RelV v e.val
    rw [d]
    exact b
/-- what is known of a value that is to be shown -/
def Shows (X : Cx) (h : Heap) (u : Value) (d : PyData) : Prop :=
  ∃ as bs, Reads h u d as ∧ ReadAtMost h d.depth bs ∧ ReprK X.prog X.w bs h d.depth u d.shown
def ShowsAll (X : Cx) (h : Heap) (us : List Value) (ds : List PyData) : Prop :=
  ∃ as bs, ReadsAll h us ds as ∧ ReadAtMost h (PyData.depthAll ds) bs ∧ ReprAllK X.prog X.w bs h (PyData.depthAll ds) us (PyData.shownAll ds)
theorem ShowsAll.nil {h : Heap} : ShowsAll X h [] [] := ⟨[], [], .nil, (fun _ m => nomatch m), by simp only [PyData.shownAll]; exact .nil⟩
theorem ShowsAll.cons {h : Heap} {u : Value} {us : List Value} {d : PyData} {ds : List PyData} (a : Shows X h u d) (b : ShowsAll X h us ds) : ShowsAll X h (u :: us) (d :: ds) := by
  obtain ⟨a1, b1, r1, m1, k1⟩ := a
  obtain ⟨a2, b2, r2, m2, k2⟩ := b
  refine ⟨a1 ++ a2, b1 ++ b2, .cons r1 r2, ?_, ?_⟩
  · simp only [PyData.depthAll]
    exact (m1.mono (Nat.le_max_left _ _)).append (m2.mono (Nat.le_max_right _ _))
  · simp only [PyData.depthAll, PyData.shownAll]
    exact .cons ((k1.more fun b hb => List.mem_append_left _ hb).level_le (Nat.le_max_left _ _)) (k2.more_le (fun b hb => List.mem_append_right _ hb) (Nat.le_max_right _ _))
/-- the parts of a list's display, for the call at the top too -/
theorem shows_list {h : Heap} {a : Addr} {its : Array Value} {ds : List PyData} {o : Obj} {n : Nat} (h1 : h.get? a = some o) (h2 : o.cls = .type "list") (h3 : o.data = .seq its n) (q : ShowsAll X h its.toList ds) : Shows X h (.ref a) (.list ds) := by
  obtain ⟨as, bs, r, m, k⟩ := q
  have rr : Reads h (.ref a) (.list ds) _ := .list h1 h2 h3 r
  have hna : a ∉ bs := not_mem_of_deeper rr (by simp only [PyData.depth]; omega) m
  refine ⟨_, a :: bs, rr, ReadAtMost.cons rr (by simp only [PyData.depth]; omega) m, ?_⟩
  simp only [PyData.depth, PyData.shown]
  obtain ⟨l⟩ := its
  cases l with
  | nil =>
    have r2 : ReadsAll h [] ds _ := r
    cases r2
    simp only [PyData.shownAll, listText_nil]
    exact ReprK.listEmpty h1 h2 h3
  | cons x l => exact ReprK.list h1 h2 h3 hna (by simpa using k.length_eq) (fun i y e => k.item i y (by simpa using e))
mutual
theorem shows_of (I : Inv X pins σ H s) : ∀ (d : PyData) (v : V) (u : Value), Dz X.K H v d → RelV v u → d.showable = true → d.shown.length ≤ sizeLine → Shows X s.heap u d
  | .none, _, u, h, r, _, _ => by
    cases h
    cases r
    exact ⟨_, [], .none, (fun _ m => nomatch m), by simp only [PyData.shown]; exact .of_is ReprIs.none _ _ _⟩
  | .bool b, _, u, h, r, _, _ => by
    cases h
    cases r
    exact ⟨_, [], .bool b, (fun _ m => nomatch m), by simp only [PyData.shown]; exact .of_is (ReprIs.bool b) _ _ _⟩
  | .int i, _, u, h, r, hs, _ => by
    cases h
    obtain ⟨t, rfl⟩ := r
    exact ⟨_, [], .int i t, (fun _ m => nomatch m), by simp only [PyData.shown]; exact .of_is (ReprIs.int t (by simpa [PyData.showable] using hs)) _ _ _⟩
  | .str x, _, u, h, r, _, hz => by
    cases h
    obtain ⟨t, rfl⟩ := r
    exact ⟨_, [], .str x t, (fun _ m => nomatch m), by simp only [PyData.shown]; exact .of_is (ReprIs.str x t (by simpa only [PyData.shown] using hz)) _ _ _⟩
  | .list ds, _, u, h, r, hs, hz => by
    cases h with
    | lst a b =>
      cases r
      obtain ⟨its, rv, ⟨o, n, ho, hc, _, hd⟩, _⟩ := I.list a
      have hz2 : (listText (PyData.shownAll ds)).length ≤ sizeLine := by simpa only [PyData.shown] using hz
      exact shows_list ho hc hd (shows_all I ds _ _ b (by simpa using rv) (by simpa [PyData.showable] using hs) fun t ht => Nat.le_trans (listText_mem_le ht) hz2)
  | .tuple ds, _, u, h, r, hs, hz => by
    cases h with
    | tup a b =>
      cases r
      obtain ⟨its, rv, ⟨o, ho, hc, n, hd⟩, _⟩ := I.tuple a
      have hz2 : (tupleText (PyData.shownAll ds)).length ≤ sizeLine := by simpa only [PyData.shown] using hz
      obtain ⟨as, bs, r, m, k⟩ := shows_all I ds _ its b rv (by simpa [PyData.showable] using hs) fun t ht => Nat.le_trans (tupleText_mem_le ht) hz2
      have rr : Reads s.heap (.ref _) (.tuple ds) _ := .tuple ho hc hd (by simpa using r)
      have hna := not_mem_of_deeper rr (by simp only [PyData.depth]; omega) m
      refine ⟨_, _ :: bs, rr, ReadAtMost.cons rr (by simp only [PyData.depth]; omega) m, ?_⟩
      simp only [PyData.depth, PyData.shown]
      exact ReprK.tuple ho hc hd hna (by simpa using k)
  | .dict es, _, u, h, r, hs, hz => by
    cases h with
    | dic a b c =>
      cases r
      obtain ⟨_, sys, vs, kv, o, en, ep, ho, hex, hd, _, pairs, _⟩ := I.hok _ _ a
      have hz2 : (dictText (PyData.shownKv es)).length ≤ sizeLine := by simpa only [PyData.shown] using hz
      obtain ⟨hs1, hs2⟩ := PyData.showableKv_split es (by simpa [PyData.showable] using hs)
      obtain ⟨a1, b1, r1, m1, k1⟩ := shows_keys I es _ _ b (vals_keys kv pairs) hs1 fun t ht => let ⟨p, hp, hl⟩ := PyData.shownKv_key_le es t ht; Nat.le_trans hl (Nat.le_trans (dictText_mem_le hp) hz2)
      obtain ⟨a2, b2, r2, m2, k2⟩ := shows_vals I es _ _ c (vals_vals kv pairs) hs2 fun t ht => let ⟨p, hp, hl⟩ := PyData.shownKv_val_le es t ht; Nat.le_trans hl (Nat.le_trans (dictText_mem_le hp) hz2)
      have rr : Reads s.heap (.ref _) (.dict es) _ := .dict ho hex.1 hd r1 r2
      have m : ReadAtMost s.heap (PyData.depthKv es) (b1 ++ b2) := (m1.mono (PyData.depthAll_keys_le es)).append (m2.mono (PyData.depthAll_vals_le es))
      have hna := not_mem_of_deeper rr (by simp only [PyData.depth]; omega) m
      refine ⟨_, _ :: (b1 ++ b2), rr, ReadAtMost.cons rr (by simp only [PyData.depth]; omega) m, ?_⟩
      simp only [PyData.depth, PyData.shown, PyData.shownKv_eq]
      exact ReprK.dict ho hex.1 hd sys hna (ReprEntriesK.of_two en.toList _ _
        (k1.more_le (fun b hb => List.mem_append_left _ hb) (PyData.depthAll_keys_le es)) (k2.more_le (fun b hb => List.mem_append_right _ hb) (PyData.depthAll_vals_le es)))
theorem shows_all (I : Inv X pins σ H s) : ∀ (ds : List PyData) (vs : List V) (us : List Value), DzAll X.K H vs ds → Vals vs us → PyData.showableAll ds = true → (∀ t ∈ PyData.shownAll ds, t.length ≤ sizeLine) → ShowsAll X s.heap us ds
  | [], _, _, h, r, _, _ => by
    cases h
    cases r
    exact .nil
  | d :: ds, _, _, h, r, hs, hz => by
    cases h with
    | cons a b =>
      cases r with
      | cons c e =>
        have hs2 : d.showable = true ∧ PyData.showableAll ds = true := by simpa [PyData.showableAll] using hs
        exact .cons (shows_of I d _ _ a c hs2.1 (hz _ (by simp only [PyData.shownAll]; exact List.mem_cons_self ..))) (shows_all I ds _ _ b e hs2.2 fun t ht => hz t (by simp only [PyData.shownAll]; exact List.mem_cons_of_mem _ ht))
theorem shows_keys (I : Inv X pins σ H s) : ∀ (es : List (PyData × PyData)) (vs : List V) (us : List Value), DzAll X.K H vs (es.map (·.1)) → Vals vs us → PyData.showableAll (es.map (·.1)) = true → (∀ t ∈ PyData.shownAll (es.map (·.1)), t.length ≤ sizeLine) → ShowsAll X s.heap us (es.map (·.1))
  | [], _, _, h, r, _, _ => by
    cases h
    cases r
    exact .nil
  | (d, d2) :: ds, _, _, h, r, hs, hz => by
    cases h with
    | cons a b =>
      cases r with
      | cons c e =>
        have hs2 : d.showable = true ∧ PyData.showableAll (ds.map (·.1)) = true := by simpa [PyData.showableAll] using hs
        exact .cons (shows_of I d _ _ a c hs2.1 (hz _ (by simp only [PyData.shownAll, List.map_cons]; exact List.mem_cons_self ..))) (shows_keys I ds _ _ b e hs2.2 fun t ht => hz t (by simp only [PyData.shownAll, List.map_cons]; exact List.mem_cons_of_mem _ ht))
theorem shows_vals (I : Inv X pins σ H s) : ∀ (es : List (PyData × PyData)) (vs : List V) (us : List Value), DzAll X.K H vs (es.map (·.2)) → Vals vs us → PyData.showableAll (es.map (·.2)) = true → (∀ t ∈ PyData.shownAll (es.map (·.2)), t.length ≤ sizeLine) → ShowsAll X s.heap us (es.map (·.2))
  | [], _, _, h, r, _, _ => by
    cases h
    cases r
    exact .nil
  | (d2, d) :: ds, _, _, h, r, hs, hz => by
    cases h with
    | cons a b =>
      cases r with
      | cons c e =>
        have hs2 : d.showable = true ∧ PyData.showableAll (ds.map (·.2)) = true := by simpa [PyData.showableAll] using hs
        exact .cons (shows_of I d _ _ a c hs2.1 (hz _ (by simp only [PyData.shownAll, List.map_cons]; exact List.mem_cons_self ..))) (shows_vals I ds _ _ b e hs2.2 fun t ht => hz t (by simp only [PyData.shownAll, List.map_cons]; exact List.mem_cons_of_mem _ ht))
end
/-- repr(xs) of a list of data -/
def rRepr (K : PySem.W.Frag) : List V → Hp → VK → Prop := fun vs H Q => match vs with
  | [.ref p] => ∃ ds, Dz K H (.ref p) (.list ds) ∧ PyData.showableAll ds = true ∧ (PyData.list ds).shown.length ≤ sizeLine ∧ (PyData.list ds).depth ≤ 100 ∧ Q (.str (PyData.list ds).shown) H
  | _ => False
theorem call_repr {X : Cx} {k : Nat} (quiet : Quiet X.A) (room : Room k X.A) : CallR X (.builtin "repr") (rRepr X.K) := by
  intro pins s σ H xs us Q I r h
  match xs, h with
  | [.ref p], ⟨ds, dz, sh, sz, dp, q⟩ =>
    have eu : us = [.ref p] := by
      cases r with
      | cons a b =>
        cases b
        cases a
        rfl
    subst eu
    have un := room.un
    cases dz with
    | lst a b =>
      obtain ⟨its, rv, ⟨o, n, ho, hc, _, hd⟩, _⟩ := I.list a
      have hz2 : (listText (PyData.shownAll ds)).length ≤ sizeLine := by simpa only [PyData.shown] using sz
      obtain ⟨as, bs, rr0, m, kk⟩ := shows_all I ds _ its b rv sh fun t ht => Nat.le_trans (listText_mem_le ht) hz2
      have rr : Reads s.heap (.ref p) (.list ds) _ := .list ho hc hd (by simpa using rr0)
      have hna : p ∉ bs := not_mem_of_deeper rr (by simp only [PyData.depth]; omega) m
      simp only [PyData.depth] at dp
      simp only [PyData.shown] at q
      have fin : ∀ h' tk u, (∀ b o, s.heap.get? b = some o → h'.get? b = some o) → EP X pins σ Q (.str (listText (PyData.shownAll ds)) u) { s with heap := h', toks := tk } := fun h' tk u hk =>
        ⟨.str _, H, I.kept (t' := tk) hk, ⟨u, rfl⟩, q⟩
      refine call_repr_slot (by omega) ⟨o, ho, hc⟩ PySem.F.slot_list_repr.toG ?_
      cases its with
      | nil =>
        have r2 : ReadsAll s.heap [] ds _ := rr0
        cases r2
        simp only [PyData.shownAll, listText_nil] at fin
        exact call_list_repr_empty ⟨o, ho, hc⟩ ho hd ⟨_, _, rfl, fin _ _ _ fun _ _ e => e⟩
      | cons x l =>
        exact call_list_reprK ho hc hd hna (by simpa using kk.length_eq) (fun i y e => kk.item i y (by simpa using e)) quiet (fun b _ => Clear.nil b) (by show X.A.units + 1 + (PyData.depthAll ds + 1) < cLine; omega) (fun _ _ e => e) (fun h' u tk hk => ⟨_, _, rfl, fin h' tk u hk⟩) hz2
end
end Z
/-! len(set(xs)) of texts. -/
namespace Z
open PySem PySem.Spec PyProof.Rows L2 G
/-- the different texts of the first i, in the order of their first places -/
def ded (xs : List Str) (i : Nat) : List Str := (xs.take i).foldl step_dedup []
theorem ded_0 (xs : List Str) : ded xs 0 = [] := rfl
theorem ded_next {xs : List Str} {i : Nat} (h : i < xs.length) : ded xs (i + 1) = step_dedup (ded xs i) (xs.getD i Str.empty) := by
  unfold ded
  rw [List.getD_eq_getElem?_getD, List.take_add_one, List.foldl_append, List.getElem?_eq_getElem h]
  rfl
theorem ded_len (xs : List Str) (i : Nat) : (ded xs i).length ≤ xs.length := by
  have a := length_foldl_step_dedup_le (xs.take i) ([] : List Str)
  have b : (xs.take i).length ≤ xs.length := by rw [List.length_take]; omega
  unfold ded
  simp only [List.length_nil, Nat.zero_add] at a
  omega
theorem stepS_any (l : List Str) (x k : Str) : (step_dedup l x).any (· == k) = (l.any (· == k) || decide (k = x)) := by
  unfold step_dedup
  by_cases c : l.any (· == x) = true
  · rw [if_pos c]
    by_cases e : k = x
    · rw [e, c]
      simp
    · simp [e]
  · rw [if_neg c, List.any_append]
    by_cases e : k = x
    · simp [e]
    · have f : (x == k) = false := beq_eq_false_iff_ne.mpr fun g => e g.symm
      simp [f, e]
theorem stepS_len (l : List Str) (x : Str) : (step_dedup l x).length = if l.any (· == x) then l.length else l.length + 1 := by
  unfold step_dedup
  split <;> simp
/-- at a stand the set of the first i texts -/
abbrev DedAt (P : Program) (w : World) (h : Heap) (a : Addr) (xs : List Str) (i : Nat) : Prop := h.SetOf (PySem.strKind P w) a (fun k => (ded xs i).any (· == k)) (ded xs i).length
theorem DedAt.keeps {P : Program} {w : World} {h h1 : Heap} {a : Addr} {xs : List Str} {i : Nat} (d : DedAt P w h a xs i) (k : ∀ o, h.get? a = some o → h1.get? a = some o) : DedAt P w h1 a xs i :=
  let ⟨o, es, ep, t, e, r⟩ := d
  ⟨o, es, ep, t, k o e, r⟩
section
variable {P : Program} {w : World} {A : Around} {R : Result → Shared → Prop} {it : Addr} {fp wr : List Addr} {g : Array GenState → Array GenState → Prop} {n : Nat} {pv : Nat → Value → Prop} {st : Nat → Shared → Prop}
theorem set_loop (W : WalksS P w A.in1 it fp wr g n pv st) (a : Addr) (apart : a ∉ fp) (xs : List Str) (size : xs.length = n) (small : n + 1 < scanBound) (texts : ∀ i v, pv i v → ∃ t, v = .str (xs.getD i Str.empty) t) :
    ∀ (left i : Nat) (s : Shared), i + left = n → st i s → DedAt P w s.heap a xs i → (∀ s1, Moved (a :: wr) g s s1 → DedAt P w s1.heap a xs n → R (.ok (.ret .none)) s1) →
      codeAny (model P w) A (.builtin "set.update.loop" ⟨[.ref a, .ref it], []⟩) R s
  | 0, i, s, e, now, d, fin => by
    have e2 : i = n := e
    subst e2
    refine codeAny_builtin PyProof.Rows.F.entry_set_update_loop ?_
    rw [Around.under_plainId PyProof.Rows.F.plain_set_update_loop _]
    refine wpAny_bind (m := pyNext (.ref it)) (W.done s _ _ now fun s1 mv => wpAny_pure (fin s1 (mv.mono fun b hb => List.mem_cons_of_mem _ hb) (d.keeps fun o q => mv.heap a o (fun c => apart (W.sub _ c)) q)))
  | left + 1, i, s, e, now, d, fin => by
    have lt : i < n := by omega
    refine codeAny_builtin PyProof.Rows.F.entry_set_update_loop ?_
    rw [Around.under_plainId PyProof.Rows.F.plain_set_update_loop _]
    refine wpAny_bind (m := pyNext (.ref it)) (W.item i s _ _ lt now fun v s1 is now1 mv => ?_)
    obtain ⟨t, rfl⟩ := texts i v is
    have d1 : DedAt P w s1.heap a xs i := d.keeps fun o q => mv.heap a o (fun c => apart (W.sub _ c)) q
    refine wpAny_bind (m := holding _ _) (wpAny_holding ?_)
    unfold setAdd
    refine wpAny_holding (wpAny_bind ((PySem.strKind P w).pyHash (k := xs.getD i Str.empty) (strKind_is _ _ _ _) ?_))
    have room : (ded xs i).length + 1 < scanBound := by
      have := ded_len xs i
      omega
    refine wpAny_setAddHashed_of (knd := PySem.strKind P w) (s := { s1 with toks := s1.toks + 1 }) (strKind_is _ _ _ _) rfl d1 room fun h1 but d2 => ?_
    have lx : i < xs.length := by omega
    have d3 : DedAt P w h1 a xs (i + 1) := SetOf_congr d2 (fun k => by rw [ded_next lx, stepS_any]) (by rw [ded_next lx, stepS_len])
    refine wpAny_pure ⟨plainId_quiet PyProof.Rows.F.plain_set_update_loop _, set_loop W a apart xs size small texts left (i + 1) _ (by omega) (W.frame _ s1 _ _ now1 (Nat.le_succ _) fun b hb o q => ?_) d3 fun s2 mv2 d4 => ?_⟩
    · rw [but.2 b fun c => apart (c ▸ hb)]
      exact q
    refine fin s2 (Moved.trans W.gtrans ((mv.mono fun b hb => List.mem_cons_of_mem _ hb).then_heap (Nat.le_succ _) fun b o hb q => ?_) mv2) d4
    rw [but.2 b fun c => hb (c ▸ List.mem_cons_self)]
    exact q
end
/-- a new set's object -/
abbrev newSet (led : Bool) : Obj := { cls := .type "set", dict := none, data := .set #[] 0 (.fresh 0 0 led) }
/-- what set(l) leaves -/
def SetMade (P : Program) (w : World) (s : Shared) (xs : List Str) (s1 : Shared) : Prop :=
  ∃ h tk, s1 = { s with heap := h, toks := tk } ∧ DedAt P w h s.heap.objs.size xs xs.length ∧ ∀ b o, b < s.heap.objs.size → s.heap.get? b = some o → h.get? b = some o
theorem call_setS {P : Program} {w : World} {A : Around} {E : Value → Shared → Prop} {s : Shared} {l : Addr} {its : List Value} {xs : List Str} {Q : Value → Shared → Prop} (calm : A.handled = none) (at_l : s.heap.IsList l its.toArray) (rel : Vals (xs.map V.str) its) (small : xs.length + 1 < scanBound)
    (q : ∀ s1, SetMade P w s xs s1 → Q (.ref s.heap.objs.size) s1) : wpAny (model P w) A (call (.type "set") [.ref l]) Q E s := by
  have len : its.length = xs.length := by rw [← rel.length, List.length_map]
  obtain ⟨c0, c1, mro⟩ := PySem.F.called_set.mro
  have made := PySem.F.called_set.made
  have sub := PySem.F.called_set.sub
  refine wpAny_call (codeAny_of_tree ?_)
  show wpAny _ _ (callAny (.type "set") _) _ _ _
  refine wpAny_pure ⟨Code.quiet_builtin _ (by decide +kernel), codeAny_builtin PySem.F.entry_type_call ?_⟩
  rw [Around.under_plain (weight_type_call_type "set" [.ref l] []) rfl]
  have noType := PySem.F.called_set.notType
  have create := PySem.F.called_set.canCreate
  have args := PySem.F.typeCall_set_1 (.ref l)
  repeat (any_goals (first | assumption | wp_step))
  refine codeAny_mono (code_set_new_1 (.ref l) (E := E) (Q₁ := fun v s1 => ∃ led, v = .ref s.heap.objs.size ∧ s1 = { s with heap := s.heap.push (newSet led) }) fun led => ⟨led, rfl, rfl⟩) fun res s1 new => ?_
  match res, new with
  | .error e, new => exact new
  | .ok (.ret v), new =>
    obtain ⟨led, rfl, rfl⟩ := new
    have at_a : (s.heap.push (newSet led)).get? s.heap.objs.size = some (newSet led) := Heap.get?_push_size _ rfl
    have is_a : Shared.TypeIs { s with heap := s.heap.push (newSet led) } (.ref s.heap.objs.size) "set" := ⟨_, at_a, rfl⟩
    have looked := PySem.F.called_set.init.lookup
    have bound := PySem.F.called_set.init.bind (.ref s.heap.objs.size)
    repeat (any_goals (first | assumption | wp_step))
    refine codeAny_mono (codeAny_call_builtin (R := wants (fun r s2 => r = .none ∧ SetMade P w s xs s2) E) PySem.F.called_set.init.plain PySem.F.entry_set_init (check_set_init_1 is_a ?_)) fun res2 s2 z => ?_
    · obtain ⟨⟨cl, di, da, sl⟩, e1, e2, nl, e3⟩ := at_l
      simp only at e2 e3
      subst e2
      subst e3
      have old : (s.heap.push (newSet led)).get? l = some { cls := .type "list", dict := di, data := .seq its.toArray nl, slots := sl } := Heap.get?_push_of_some _ e1
      have notSet := PySem.F.sub_list_set
      have notFroz := PySem.F.sub_list_frozenset
      have notDict : (Value.type "list" == Value.type "dict") = false := by decide
      have isL : (s.heap.push (newSet led)).IsList l its.toArray := ⟨_, old, rfl, nl, rfl⟩
      have ll : l < s.heap.objs.size := Heap.lt_size e1
      unfold Builtin.«set.__init__» noKeywords Builtin.Frozenset.updateFrom
      generalize hid : pyIter = PI
      wp_walk
      subst hid
      refine wpAny_pyIter_list isL (wpAny_bind (wpAny_runValue ?_))
      have calm3 : A.in1.in1.in1.handled = none := calm
      have sz1 : (s.heap.push (newSet led)).objs.size = s.heap.objs.size + 1 := Heap.size_push ..
      have ne1 : l ≠ (s.heap.push (newSet led)).objs.size := by
        rw [sz1]
        exact Nat.ne_of_lt (Nat.lt_succ_of_lt ll)
      have ne2 : s.heap.objs.size ∉ [(s.heap.push (newSet led)).objs.size, l] := by
        rw [sz1]
        intro c
        rcases List.mem_cons.mp c with c | c
        · exact Nat.ne_of_lt (Nat.lt_succ_self _) c
        · exact Nat.ne_of_gt ll (List.mem_singleton.mp c)
      have texts : ∀ (i : Nat) (v : Value), its.toArray[i]? = some v → ∃ t, v = .str (xs.getD i Str.empty) t := by
        intro i v e
        rw [List.getElem?_toArray] at e
        have lt : i < xs.length := by
          rw [← len]
          exact (List.getElem?_eq_some_iff.mp e).1
        obtain ⟨u, e4, t, e5⟩ := Vals.get (i := i) (x := .str xs[i]) rel (by rw [List.getElem?_map, List.getElem?_eq_getElem lt]; rfl)
        rw [e4] at e
        refine ⟨t, ?_⟩
        rw [← Option.some.inj e, e5, List.getD_eq_getElem?_getD, List.getElem?_eq_getElem lt]
        rfl
      have zero : ((s.heap.push (newSet led)).push { cls := .type "list_iterator", data := .fields #[.ref l, .int 0 0] }).get? s.heap.objs.size = some (newSet led) := Heap.get?_push_of_some _ at_a
      have d0 : DedAt P w ((s.heap.push (newSet led)).push { cls := .type "list_iterator", data := .fields #[.ref l, .int 0 0] }) s.heap.objs.size xs 0 :=
        SetOf_congr ((PyProof.Rows.setObjOf_fresh (knd := PySem.strKind P w) led).setOf zero (by unfold scanBound; omega)) (fun _ => rfl) rfl
      refine set_loop (n := its.toArray.size) ((Walks.list calm3 _ l ne1 its.toArray).toS) s.heap.objs.size ne2 xs (by rw [List.size_toArray, len]) (by rw [List.size_toArray, len]; exact small) texts its.toArray.size 0 _ (Nat.zero_add _) ⟨⟨_, Heap.get?_push_size _ rfl, rfl, rfl⟩, isL.push _⟩ d0 ?_
      intro s3 mv d3
      obtain ⟨h3, g3, dr3, tk3, os3⟩ := s3
      have e4 : g3 = s.gens := mv.gens
      have e5 : dr3 = s.drawn := mv.drawn
      have e6 : os3 = s.os := mv.os
      subst e4 e5 e6
      show wpAny _ _ _ _ _ _
      refine wpAny_pure ?_
      show wpAny _ _ (ret Value.none) _ _ _
      have zs : its.toArray.size = xs.length := by rw [List.size_toArray, len]
      rw [zs] at d3
      refine wpAny_pure ⟨rfl, h3, tk3, rfl, d3, fun b o lt e => ?_⟩
      refine mv.heap b o ?_ (Heap.get?_push_of_some _ (Heap.get?_push_of_some _ e))
      rw [sz1]
      intro c
      rcases List.mem_cons.mp c with c | c
      · exact Nat.ne_of_lt lt c
      · have c2 := List.mem_singleton.mp c
        exact Nat.ne_of_lt (Nat.lt_succ_of_lt lt) c2
    · match res2, z with
      | .error e, z => exact z
      | .ok (.ret r), z =>
        obtain ⟨rfl, z⟩ := z
        obtain ⟨h3, tk3, rfl, z2⟩ := z
        repeat (any_goals (first | assumption | wp_step))
        exact q _ ⟨h3, tk3, rfl, z2⟩
/-- len(set(xs)), xs a list of texts -/
def tLenSetS (K : PySem.W.Frag) (ta : TE) : TE := fun σ H Q => ta σ H fun x H1 => ∃ l, ∃ xs : List Str, x = .ref l ∧ SqL K H1 l (xs.map V.str) ∧ xs.length < 1000 ∧ Q (.int (ded xs xs.length).length) H1
theorem pe_lenSetS {X : Cx} {a : Expr} {ta : TE} {p p2 q pos : Pos} (hc : X.calm = true) (hg : Gl X "len") (hm : X.mg "len" = none) (hg2 : Gl X "set") (hm2 : X.mg "set" = none) (ha : PE X a ta)
    (na : starEach [a] X.env = (false, eval a X.env) :: starEach [] X.env := by rfl) : PE X (.Call (.Name "len" p) [.Call (.Name "set" p2) [a] [] q] [] pos) (tLenSetS X.K ta) := by
  refine ⟨?_⟩
  intro pins s σ H Q I want
  refine Call_ (ld_blt I hg hm PySem.boot_len (PyProof.Rows.callWith_builtin1 (PyProof.Rows.args_cons ?_ rfl) rfl rfl))
  refine Call_ (ld_blt I hg2 hm2 PyProof.Rows.boot_set (PyProof.Rows.callWith_type1 (PyProof.Rows.args_cons (thn (ha.run pins s σ H _ I want) ?_) na) na rfl))
  rintro v s1 ⟨x, H1, I1, r1, l, xs, rfl, hl, small, q⟩
  refine PyProof.Rows.args_nil ?_
  cases r1
  obtain ⟨its, r, pl, _⟩ := I1.list hl
  refine call_setS (I1.ok.hd hc) pl.isList r (by unfold scanBound; omega) ?_
  rintro s2 ⟨h, tk, rfl, d, keep⟩
  refine PyProof.Rows.args_nil ?_
  obtain ⟨o, es, ep, t, ho, hex, hd, _, _, _, hf, hn⟩ := d
  have I2 : Inv X pins σ H1 { s1 with heap := h, toks := tk } := I1.kept fun b o e => keep b o (Heap.lt_size e) e
  have le := ded_len xs xs.length
  refine call_len_set ho hex hd hf (by rw [hn] <;> omega) ⟨.int (ded xs xs.length).length, H1, I2.tok _, ⟨_, by rw [hn]⟩, q⟩
end Z
/-! Data: how long their texts are; what they are judged to be. -/
namespace Z
open PySem PySem.Spec PyProof.Rows L2 G
mutual
/-- at least the length of the text -/
def wt : PyData → Nat
  | .none => 4
  | .bool _ => 5
  | .int i => (toString i : Str).length
  | .str x => 10 * x.length + 2
  | .list ds => 2 + wtAll ds
  | .tuple ds => 3 + wtAll ds
  | .dict es => 2 + wtKv es
def wtAll : List PyData → Nat
  | [] => 0
  | d :: ds => wt d + 2 + wtAll ds
def wtKv : List (PyData × PyData) → Nat
  | [] => 0
  | (k, v) :: es => wt k + wt v + 4 + wtKv es
end
mutual
/-- numbers and signs that can be shown -/
def fitD : PyData → Bool
  | .none => true
  | .bool _ => true
  | .int i => decide (i.natAbs.log2 < 1920)
  | .str x => x.cps.toList.all fun c => decide (c < 16 ^ 8)
  | .list ds => fitAll ds
  | .tuple ds => fitAll ds
  | .dict es => fitKv es
def fitAll : List PyData → Bool
  | [] => true
  | d :: ds => fitD d && fitAll ds
def fitKv : List (PyData × PyData) → Bool
  | [] => true
  | (k, v) :: es => fitD k && fitD v && fitKv es
end
mutual
theorem fit_show : ∀ d : PyData, fitD d = true → d.showable = true
  | .none, _ => by simp [PyData.showable]
  | .bool _, _ => by simp [PyData.showable]
  | .int i, h => by
    simpa [PyData.showable, fitD] using h
  | .str x, _ => by simp [PyData.showable]
  | .list ds, h => by
    simp only [PyData.showable]
    exact fit_showAll ds (by simpa [fitD] using h)
  | .tuple ds, h => by
    simp only [PyData.showable]
    exact fit_showAll ds (by simpa [fitD] using h)
  | .dict es, h => by
    simp only [PyData.showable]
    exact fit_showKv es (by simpa [fitD] using h)
theorem fit_showAll : ∀ ds : List PyData, fitAll ds = true → PyData.showableAll ds = true
  | [], _ => by simp [PyData.showableAll]
  | d :: ds, h => by
    simp only [fitAll, Bool.and_eq_true] at h
    simp only [PyData.showableAll, fit_show d h.1, fit_showAll ds h.2, Bool.and_self]
theorem fit_showKv : ∀ es : List (PyData × PyData), fitKv es = true → PyData.showableKv es = true
  | [], _ => by simp [PyData.showableKv]
  | (k, v) :: es, h => by
    simp only [fitKv, Bool.and_eq_true] at h
    simp only [PyData.showableKv, fit_show k h.1.1, fit_show v h.1.2, fit_showKv es h.2, Bool.and_self]
end
def sumT (ts : List Str) : Nat := (ts.map fun t => t.length + 2).sum
theorem sumT_cons (t : Str) (ts : List Str) : sumT (t :: ts) = t.length + 2 + sumT ts := by
  unfold sumT
  rw [List.map_cons, List.sum_cons]
theorem piled_is : ∀ ts : List Str, piled ts = sumT ts
  | [] => by simp [piled, sumT]
  | t :: ts => by
    rw [sumT_cons, ← piled_is ts]
    simp [piled]
    try omega
theorem listText_le (ts : List Str) : (listText ts).length ≤ 2 + sumT ts := by
  cases ts with
  | nil =>
    rw [listText_nil]
    show _ ≤ 2 + 0
    decide +kernel
  | cons t ts =>
    have e : (listText (t :: ts)).length = (textFrom 0 "[" (t :: ts)).length + 1 := by
      show (textFrom 0 "[" (t :: ts) ++ "]").length = _
      rw [strLen_append]
      rfl
    rw [e]
    show (textFrom 1 _ ts).length + 1 ≤ _
    rw [textFrom_length_pos _ _ _ (by decide), piled_is, sumT_cons, strLen_append, strLen_append]
    have z1 : (Str.ofString "[").length = 1 := by decide +kernel
    have z2 : (Str.ofString (if 0 > 0 then ", " else "")).length = 0 := by decide +kernel
    show (Str.ofString "[").length + (Str.ofString (if 0 > 0 then ", " else "")).length + t.length + sumT ts + 1 ≤ _
    rw [z1, z2]
    omega
theorem joined_le (ts : List Str) : (Str.join ", " ts).length ≤ sumT ts := by
  by_cases h : ts = []
  · subst h
    show _ ≤ 0
    decide +kernel
  · have := join_length_add ts h
    rw [piled_is] at this
    omega
theorem tupleText_le (ts : List Str) : (tupleText ts).length ≤ 3 + sumT ts := by
  unfold tupleText
  rw [strLen_append, strLen_append]
  have a := joined_le ts
  have z1 : (Str.ofString "(").length = 1 := by decide +kernel
  have z2 : (Str.ofString (if ts.length == 1 then ",)" else ")")).length ≤ 2 := by
    by_cases c : (ts.length == 1) = true
    · rw [if_pos c]
      decide +kernel
    · rw [if_neg c]
      decide +kernel
  show (Str.ofString "(").length + _ + (Str.ofString (if ts.length == 1 then ",)" else ")")).length ≤ _
  omega
theorem dictText_le (ts : List Str) : (dictText ts).length ≤ 2 + sumT ts := by
  unfold dictText
  rw [strLen_append, strLen_append]
  have a := joined_le ts
  have z1 : (Str.ofString "{").length = 1 := by decide +kernel
  have z2 : (Str.ofString "}").length = 1 := by decide +kernel
  show (Str.ofString "{").length + _ + (Str.ofString "}").length ≤ _
  omega
mutual
theorem shown_le : ∀ d : PyData, fitD d = true → d.shown.length ≤ wt d
  | .none, _ => by
    simp only [PyData.shown, wt]
    decide +kernel
  | .bool b, _ => by
    simp only [PyData.shown, wt]
    cases b <;> decide +kernel
  | .int i, _ => by
    simp only [PyData.shown, wt]
    exact Nat.le_refl _
  | .str x, h => by
    simp only [PyData.shown, wt]
    refine StrLaws.reprText_len x fun c hc => ?_
    have h2 : (x.cps.toList.all fun c => decide (c < 16 ^ 8)) = true := by simpa only [fitD] using h
    exact of_decide_eq_true (List.all_eq_true.mp h2 c hc)
  | .list ds, h => by
    simp only [PyData.shown, wt]
    exact Nat.le_trans (listText_le _) (Nat.add_le_add_left (shown_leAll ds (by simpa only [fitD] using h)) _)
  | .tuple ds, h => by
    simp only [PyData.shown, wt]
    exact Nat.le_trans (tupleText_le _) (Nat.add_le_add_left (shown_leAll ds (by simpa only [fitD] using h)) _)
  | .dict es, h => by
    simp only [PyData.shown, wt]
    exact Nat.le_trans (dictText_le _) (Nat.add_le_add_left (shown_leKv es (by simpa only [fitD] using h)) _)
theorem shown_leAll : ∀ ds : List PyData, fitAll ds = true → sumT (PyData.shownAll ds) ≤ wtAll ds
  | [], _ => by
    simp only [PyData.shownAll, wtAll]
    exact Nat.le_refl 0
  | d :: ds, h => by
    simp only [fitAll, Bool.and_eq_true] at h
    simp only [PyData.shownAll, wtAll]
    rw [sumT_cons]
    have a := shown_le d h.1
    have b := shown_leAll ds h.2
    omega
theorem shown_leKv : ∀ es : List (PyData × PyData), fitKv es = true → sumT (PyData.shownKv es) ≤ wtKv es
  | [], _ => by
    simp only [PyData.shownKv, wtKv]
    exact Nat.le_refl 0
  | (k, v) :: es, h => by
    simp only [fitKv, Bool.and_eq_true] at h
    simp only [PyData.shownKv, wtKv]
    rw [sumT_cons, strLen_append, strLen_append]
    have a := shown_le k h.1.1
    have a2 := shown_le v h.1.2
    have b := shown_leKv es h.2
    have z : (Str.ofString ": ").length = 2 := by decide +kernel
    have z2 : (": " : Str).length = 2 := z
    omega
end
/-- data of weight at most W, at most n deep -/
structure Fit (W n : Nat) (d : PyData) : Prop where
  fit : fitD d = true
  wt : wt d ≤ W
  deep : d.depth ≤ n
theorem Fit.mono {W W2 n n2 : Nat} {d : PyData} (h : Fit W n d) (a : W ≤ W2) (b : n ≤ n2) : Fit W2 n2 d := ⟨h.fit, Nat.le_trans h.wt a, Nat.le_trans h.deep b⟩
/-- the text of a list of data can be asked for -/
theorem repr_of {K : PySem.W.Frag} {H : Hp} {Q : VK} {p : Addr} {ds : List PyData} {n : Nat} (dz : Dz K H (.ref p) (.list ds)) (f : Fit 10000000 n (.list ds)) (hn : n ≤ 100) (q : Q (.str (PyData.list ds).shown) H) : rRepr K [.ref p] H Q := by
  refine ⟨ds, dz, ?_, ?_, Nat.le_trans f.deep hn, q⟩
  · have := fit_show _ f.fit
    simpa only [PyData.showable] using this
  · have a := shown_le _ f.fit
    have b := f.wt
    rw [sizeLine_eq]
    omega
/-! ### what a value is judged to be -/
def allLetB (z : Str) : Bool := z.cps.toList.all letB
def nmD : PyData → Bool
  | .str z => nameB z
  | _ => false
def sgD : PyData → Bool
  | .str z => signsB z
  | _ => false
def strmD : PyData → Bool
  | .tuple [a, b] => nmD a && sgD b
  | _ => false
def kindD (least : Nat) : PyData → Bool
  | .tuple ds => decide (least ≤ ds.length) && decide (ds.length ≤ 3) && ds.all strmD
  | _ => false
/-- the names of a kind that is well formed -/
def nm1 : PyData → Str
  | .tuple (.str z :: _) => z
  | _ => Str.empty
def nmsD : PyData → List Str
  | .tuple ds => ds.map nm1
  | _ => []
def strsD (s t : PyData) : Bool := kindD 1 s && kindD 0 t && decide (nmsD s ++ nmsD t).Nodup
def tyD : PyData → String
  | .none => "NoneType"
  | .bool _ => "bool"
  | .int _ => "int"
  | .str _ => "str"
  | .list _ => "list"
  | .tuple _ => "tuple"
  | .dict _ => "dict"
theorem Dz.tyx {K : PySem.W.Frag} {H : Hp} {v : V} {d : PyData} (h : Dz K H v d) : TyX K H v (.type (tyD d)) := by
  cases h with
  | non => exact .base .non
  | bl b => exact .base (.bl b)
  | int i => exact .base (.int i)
  | str x => exact .base (.str x)
  | lst a b =>
    rcases a with a | ⟨o, its, n, hk, hc, _⟩
    · rcases a with a | ⟨o, a⟩
      · exact .base (.lst a)
      · exact .base (.frz a)
    · exact .kList hk hc
  | tup a b =>
    rcases a with a | ⟨o, its, n, hk, hc, _⟩
    · rcases a with a | ⟨o, a⟩
      · exact .base (.tup a)
      · exact .fTuple a
    · exact .kTuple hk hc
  | dic a b c => exact .base (.dK a)
def strD : PyData → Bool
  | .str _ => true
  | _ => false
def tupD : PyData → Bool
  | .tuple _ => true
  | _ => false
theorem kit_str {K : PySem.W.Frag} : ∀ d : PyData, PySem.W.kitOne K (.type (tyD d)) (.type "str") = some (strD d)
  | .none => kit_ty (a := "NoneType") (r := false) (by decide +kernel)
  | .bool _ => kit_ty (a := "bool") (r := false) (by decide +kernel)
  | .int _ => kit_ty (a := "int") (r := false) (by decide +kernel)
  | .str _ => kit_ty (a := "str") (r := true) (by decide +kernel)
  | .list _ => kit_ty (a := "list") (r := false) (by decide +kernel)
  | .tuple _ => kit_ty (a := "tuple") (r := false) (by decide +kernel)
  | .dict _ => kit_ty (a := "dict") (r := false) (by decide +kernel)
theorem kit_tup {K : PySem.W.Frag} : ∀ d : PyData, PySem.W.kitOne K (.type (tyD d)) (.type "tuple") = some (tupD d)
  | .none => kit_ty (a := "NoneType") (r := false) (by decide +kernel)
  | .bool _ => kit_ty (a := "bool") (r := false) (by decide +kernel)
  | .int _ => kit_ty (a := "int") (r := false) (by decide +kernel)
  | .str _ => kit_ty (a := "str") (r := false) (by decide +kernel)
  | .list _ => kit_ty (a := "list") (r := false) (by decide +kernel)
  | .tuple _ => kit_ty (a := "tuple") (r := true) (by decide +kernel)
  | .dict _ => kit_ty (a := "dict") (r := false) (by decide +kernel)
/-- isinstance(v, str) -/
theorem is_str {K : PySem.W.Frag} {H : Hp} {Q : VK} {v : V} {d : PyData} (h : Dz K H v d) (y : ∀ z, d = .str z → v = .str z → Q (.bl true) H) (n : (∀ z, d ≠ .str z) → Q (.bl false) H) : rIs K [v, .ty "str"] H Q := by
  refine ⟨_, _, h.tyx, kit_str d, ?_⟩
  cases d with
  | str z =>
    cases h
    exact y z rfl rfl
  | _ => exact n fun z e => nomatch e
/-- isinstance(v, tuple) -/
theorem is_tup {K : PySem.W.Frag} {H : Hp} {Q : VK} {v : V} {d : PyData} (h : Dz K H v d) (y : ∀ ds a xs, d = .tuple ds → v = .ref a → SqT K H a xs → DzAll K H xs ds → Q (.bl true) H) (n : (∀ ds, d ≠ .tuple ds) → Q (.bl false) H) : rIs K [v, .ty "tuple"] H Q := by
  refine ⟨_, _, h.tyx, kit_tup d, ?_⟩
  cases d with
  | tuple ds =>
    cases h with
    | tup a b => exact y ds _ _ rfl rfl a b
  | _ => exact n fun z e => nomatch e
end Z
/-! zip of two texts. -/
namespace Z
open PySem PySem.Spec PyProof.Rows L2 G
/-- the signs of both, in new pairs -/
def ItzS (x y : Str) : It :=
  ⟨fun i _ => i < x.cps.size ∧ i < y.cps.size,
    fun i H v H1 => ∃ (T : Addr) (c d : Nat), v = .ref T ∧ H T = none ∧ H1 = upd H T (.tup [.str ⟨#[c]⟩, .str ⟨#[d]⟩]) ∧ x.cps[i]? = some c ∧ y.cps[i]? = some d,
    fun i _ => i ≤ x.cps.size ∧ i ≤ y.cps.size ∧ (i = x.cps.size ∨ i = y.cps.size)⟩
/-- the iterator's five cells at turn i -/
structure ZS (z TI TO i1 i2 : Addr) (x y : Str) (t u : Tok) (i : Nat) (h : Heap) : Prop where
  zip : IsZip h z TI TO .none
  ti : IsTupOf2 h TI (.ref i1) (.ref i2)
  to : ∃ a b, IsTupOf2 h TO a b
  one : h.IsStrIter i1 (strIterType x) x t i
  two : h.IsStrIter i2 (strIterType y) y u i
theorem ZS.five {z TI TO i1 i2 : Addr} {x y : Str} {t u : Tok} {i : Nat} {h : Heap} (st : ZS z TI TO i1 i2 x y t u i h) : ∀ b ∈ [z, TI, TO, i1, i2], ∃ o, h.get? b = some o ∧ ∀ v, o.data ≠ .cell v := by
  intro b hb
  obtain ⟨a, c, e0⟩ := st.to
  obtain ⟨o1, e1, _, d1⟩ := st.one
  obtain ⟨o2, e2, _, d2⟩ := st.two
  have five : b = z ∨ b = TI ∨ b = TO ∨ b = i1 ∨ b = i2 := by simpa using hb
  rcases five with e | e | e | e | e
  · rw [e]
    exact ⟨_, st.zip, fun v n => nomatch n⟩
  · rw [e]
    exact ⟨_, st.ti, fun v n => nomatch n⟩
  · rw [e]
    exact ⟨_, e0, fun v n => nomatch n⟩
  · refine ⟨o1, by rw [e]; exact e1, fun v n => ?_⟩
    rw [d1] at n
    cases n
  · refine ⟨o2, by rw [e]; exact e2, fun v n => ?_⟩
    rw [d2] at n
    cases n
theorem ZS.stays {z TI TO i1 i2 : Addr} {x y : Str} {t u : Tok} {i : Nat} {h h1 : Heap} (st : ZS z TI TO i1 i2 x y t u i h) (k : ∀ b ∈ [z, TI, TO, i1, i2], ∀ o, h.get? b = some o → h1.get? b = some o) : ZS z TI TO i1 i2 x y t u i h1 := by
  obtain ⟨a, c, e0⟩ := st.to
  obtain ⟨o1, e1, r1⟩ := st.one
  obtain ⟨o2, e2, r2⟩ := st.two
  exact ⟨k z (by simp) _ st.zip, k TI (by simp) _ st.ti, ⟨a, c, k TO (by simp) _ e0⟩, ⟨o1, k i1 (by simp) _ e1, r1⟩, ⟨o2, k i2 (by simp) _ e2, r2⟩⟩
theorem turnZipS {P : Program} {w : World} {K : PySem.W.Frag} {elts : List Expr} {kk : Nat} {tpos : Pos} {x y : Str} {t u : Tok} {z TI TO i1 i2 : Addr} (S : ZipSep2 z TI TO i1 i2 [i1] [i2]) :
    Turn P w K (.Tuple elts kk tpos) (ItzS x y) [z, TI, TO, i1, i2] z (ZS z TI TO i1 i2 x y t u) where
  mem := List.mem_cons_self
  obj := fun i h st => st.five
  keep := fun i h h1 st k => st.stays k
  self := fun A i s Q E st q => wpAny_pyIter_zip st.zip q
  item := by
    intro X eP ew eK calm i pins s σ H E I cells st ⟨lt1, lt2⟩
    subst eP ew eK
    obtain ⟨a0, b0, eTO⟩ := st.to
    have inH : ∀ b ∈ [z, TI, TO, i1, i2], b < s.heap.objs.size := by
      intro b hb
      obtain ⟨o, e, _⟩ := st.five b hb
      exact Heap.lt_size e
    have zlt := inH z (by simp)
    have D1 := Draws.text (prog := X.prog) (w := X.w) (A := X.A.in1) (I.ok.hd calm) i1 x t
    have D2 := Draws.text (prog := X.prog) (w := X.w) (A := X.A.in1) (I.ok.hd calm) i2 y u
    refine wpAny_pyNext_zipD2_item S D1 D2 st.zip st.ti eTO st.one st.two lt1 lt2 ?_
    rintro v1 v2 h1 tk ⟨c, t1, ec, rfl⟩ ⟨d, t2, ed, rfl⟩ z1 to1 one1 two1 new1 sz keep1
    refine ⟨_, rfl, ?_⟩
    refine wpAny_letOwnedTupleGo_zip (s := { s with heap := h1, toks := tk }) z1 ?_
    intro h2 z2 same
    have new2 : IsTupOf2 h2 s.heap.objs.size (.str ⟨#[c]⟩ t1) (.str ⟨#[d]⟩ t2) := (same.2 _ (Nat.ne_of_gt zlt)).trans new1
    have ok : ObjOk X.prog X.w (upd H s.heap.objs.size (.tup [.str ⟨#[c]⟩, .str ⟨#[d]⟩])) h2 s.heap.objs.size (.tup [.str ⟨#[c]⟩, .str ⟨#[d]⟩]) :=
      ⟨by show 2 ≤ sizeLine; decide, [.str ⟨#[c]⟩ t1, .str ⟨#[d]⟩ t2], .cons ⟨_, rfl⟩ (.cons ⟨_, rfl⟩ .nil), ⟨_, new2, rfl, _, rfl⟩⟩
    have stay : ∀ b o, b ∉ [z, TI, TO, i1, i2] → s.heap.get? b = some o → h2.get? b = some o := by
      intro b o nb e
      have n : b ≠ z ∧ b ≠ TO ∧ b ≠ i1 ∧ b ≠ i2 := ⟨fun q => nb (by simp [q]), fun q => nb (by simp [q]), fun q => nb (by simp [q]), fun q => nb (by simp [q])⟩
      exact (same.2 b n.1).trans (keep1 b o n.1 n.2.1 n.2.2.1 n.2.2.2 e)
    have J : Inv X pins σ (upd H s.heap.objs.size (.tup [.str ⟨#[c]⟩, .str ⟨#[d]⟩])) { s with heap := h2, toks := tk } :=
      I.turnedNew (t' := tk) stay cells (Nat.le_refl _) ok
    refine ⟨.ref s.heap.objs.size, _, J, rfl, ⟨_, c, d, rfl, I.hok.fresh (Nat.le_refl _), rfl, ec, ed⟩, ?_, ?_⟩
    · obtain ⟨o1, g1, r1⟩ := one1
      obtain ⟨o2, g2, r2⟩ := two1
      refine ⟨z2, ?_, ⟨_, _, (same.2 _ S.TOz).trans to1⟩, ⟨o1, (same.2 _ S.zi1.symm).trans g1, r1⟩, ⟨o2, (same.2 _ S.zi2.symm).trans g2, r2⟩⟩
      exact (same.2 _ S.TIz).trans (keep1 _ _ S.TIz S.TITO S.TIi1 S.TIi2 st.ti)
    · intro b hb
      rw [upd_ne (Nat.ne_of_lt (inH b hb))]
      exact (cells b hb).1
  done := by
    intro X eP ew eK calm i pins s σ H E I cells st ⟨le1, le2, ends⟩
    subst eP ew eK
    obtain ⟨a0, b0, eTO⟩ := st.to
    have D1 := Draws.text (prog := X.prog) (w := X.w) (A := X.A.in1) (I.ok.hd calm) i1 x t
    have D2 := Draws.text (prog := X.prog) (w := X.w) (A := X.A.in1) (I.ok.hd calm) i2 y u
    refine wpAny_pyNext_zipD2_end S D1 D2 st.zip st.ti eTO st.one st.two le1 le2 ends ?_
    intro h1 tk keep1
    refine ⟨rfl, I.turnedL (t' := tk) (ch := [z, TI, TO, i1, i2]) ?_ cells⟩
    intro b o nb e
    exact keep1 b o (fun q => nb (by simp [q])) (fun q => nb (by simp [q])) (fun q => nb (by simp [q])) (fun q => nb (by simp [q])) e
theorem sep (n : Nat) : ZipSep2 (n + 4) (n + 2) (n + 3) n (n + 1) [n] [n + 1] where
  TIz := by show ¬ (n + 2 = n + 4); omega
  TOz := by show ¬ (n + 3 = n + 4); omega
  TITO := by show ¬ (n + 2 = n + 3); omega
  TIi1 := by show ¬ (n + 2 = n); omega
  mem1 := List.mem_singleton.mpr rfl
  zf1 := fun h => by have := List.mem_singleton.mp h; have q : n + 4 = n := this; omega
  Tf1 := fun h => by have := List.mem_singleton.mp h; have q : n + 3 = n := this; omega
  TIi2 := by show ¬ (n + 2 = n + 1); omega
  mem2 := List.mem_singleton.mpr rfl
  zf2 := fun h => by have := List.mem_singleton.mp h; have q : n + 4 = n + 1 := this; omega
  Tf2 := fun h => by have := List.mem_singleton.mp h; have q : n + 3 = n + 1 := this; omega
  sep1_2 := fun h => by have := List.mem_singleton.mp h; have q : n = n + 1 := this; omega
  sep2_1 := fun h => by have := List.mem_singleton.mp h; have q : n + 1 = n := this; omega
def iZipS (ta : TA) : TI := fun σ H R => ta σ H fun vs H1 => ∃ x y : Str, vs = [.str x, .str y] ∧ R (ItzS x y) H1
theorem pi_zipS {X : Cx} {e e2 : Expr} {ta : TA} {p pos tpos : Pos} {elts : List Expr} {kk : Nat} (hg : Gl X "zip") (hm : X.mg "zip" = none) (ha : PA X [e, e2] ta)
    (st : starEach [e, e2] X.env = (false, eval e X.env) :: starEach [e2] X.env := by rfl) (pl : (backTo pos (starEach [e2] X.env)).any (·.1) = false := by rfl) : PI X (.Tuple elts kk tpos) (.Call (.Name "zip" p) [e, e2] [] pos) (iZipS ta) := by
  refine ⟨?_⟩
  intro pins s σ H R I want
  refine Call_ (ld_blt I hg hm PyProof.Rows.boot_zip (PyProof.Rows.callWith_type1 (thn (ha.run pos pins s σ H _ I want) ?_) st pl))
  rintro us s1 ⟨vs, H1, I1, r1, x, y, ev, q⟩
  subst ev
  obtain ⟨t, u, rfl⟩ : ∃ t u, us = [.str x t, .str y u] := by
    cases r1 with
    | cons a b =>
      cases b with
      | cons c d =>
        cases d
        obtain ⟨t, rfl⟩ := a
        obtain ⟨u, rfl⟩ := c
        exact ⟨t, u, rfl⟩
  refine zip_begins2 (begins_text x t) (begins_text y u) trivial trivial ?_
  intro h1 zip ti to one two sz keep
  refine wpAny_pyIter_zip zip ?_
  have I2 : Inv X pins σ H1 { s1 with heap := h1 } := I1.kept (t' := s1.toks) keep
  have S := sep s1.heap.objs.size
  refine ⟨s1.heap.objs.size + 4, [s1.heap.objs.size + 4, s1.heap.objs.size + 2, s1.heap.objs.size + 3, s1.heap.objs.size, s1.heap.objs.size + 1], _, _, H1, rfl, I2, turnZipS (x := x) (y := y) (t := t) (u := u) S, ⟨zip, ti, ⟨_, _, to⟩, ⟨_, one, rfl, rfl⟩, ⟨_, two, rfl, rfl⟩⟩, ?_, q⟩
  intro b hb
  have le : s1.heap.objs.size ≤ b := by
    rcases (by simpa using hb : b = s1.heap.objs.size + 4 ∨ b = s1.heap.objs.size + 2 ∨ b = s1.heap.objs.size + 3 ∨ b = s1.heap.objs.size ∨ b = s1.heap.objs.size + 1) with e | e | e | e | e
    all_goals (rw [e]; first | exact Nat.le_add_right _ _ | exact Nat.le_refl _)
  exact I1.fpOk le (I1.hok.fresh le)
end Z
local macro_rules | `(tactic| walk_at "st") => `(tactic| repeat (first
  | ((with_reducible refine' Z.s_var ?h ?_); (case h => exact rfl))
  | with_reducible refine Z.s_c ?_
  | with_reducible refine Z.s_op ?_
  | with_reducible refine Z.s_un ?_
  | with_reducible refine Z.s_nil ?_
  | with_reducible refine Z.s_cons ?_
  | with_reducible refine Z.s_cb ?_
  | with_reducible refine Z.s_call ?_
  | with_reducible refine Z.s_tup ?_
  | with_reducible refine Z.s_lst ?_
  | with_reducible refine Z.s_test ?_
  | with_reducible refine Z.s_B ?_
  | with_reducible refine Z.s_and ?_
  | with_reducible refine Z.s_or ?_
  | with_reducible refine Z.s_not ?_
  | with_reducible refine Z.s_andV ?_
  | with_reducible refine Z.s_orV ?_
  | with_reducible refine Z.s_notV ?_
  | with_reducible refine Z.s_if ?_
  | with_reducible refine Z.s_chain ?_
  | with_reducible refine Z.s_seq ?_
  | with_reducible refine Z.s_next ?_
  | with_reducible refine Z.s_drop ?_
  | with_reducible refine Z.s_ret ?_
  | with_reducible refine Z.s_ifS ?_
  | with_reducible refine Z.s_asg ?_
  | with_reducible refine Z.s_name ?_
  | with_reducible refine Z.s_par ?_
  | with_reducible refine Z.s_item ?_
  | with_reducible refine Z.s_part ?_
  | with_reducible refine Z.s_noPart ?_
  | with_reducible refine Z.s_cut ?_
  | with_reducible refine Z.s_bm0 ?_
  | with_reducible refine Z.s_bm ?_
  | with_reducible refine Z.s_bl (P := _) ?_
  | with_reducible refine Z.s_two (P := _) ?_
  | with_reducible refine Z.s_int (P := _) ?_
  | with_reducible refine Z.a_addI ?_
  | with_reducible refine Z.a_subI ?_
  | with_reducible refine Z.a_ltI ?_
  | with_reducible refine Z.a_leI ?_
  | with_reducible refine Z.a_gtI ?_
  | with_reducible refine Z.a_geI ?_
  | with_reducible refine Z.a_eqI ?_
  | with_reducible refine Z.a_neI ?_
  | with_reducible refine Z.a_eqS ?_
  | with_reducible refine Z.a_neS ?_
  | with_reducible refine Z.a_eqB ?_
  | with_reducible refine Z.a_neB ?_
  | with_reducible refine Z.a_isN ?_
  | with_reducible refine Z.a_notN ?_
  | with_reducible refine Z.a_setL ?_
  | with_reducible refine Z.a_int ?_
  | with_reducible refine Z.a_intB ?_
  | with_reducible refine Z.a_abs ?_
  | with_reducible refine Z.a_max ?_
  | with_reducible refine Z.a_min ?_
  | with_reducible refine Z.s_lc ?_
  | with_reducible refine Z.s_for ?_
  | with_reducible refine Z.s_iList ?_
  | with_reducible refine Z.s_iTup ?_
  | with_reducible refine Z.s_iStr ?_
  | with_reducible refine Z.s_rng1 ?_
  | with_reducible refine Z.s_rng2 ?_
  | with_reducible refine Z.s_gtup ?_
  | with_reducible refine Z.s_gcons ?_
  | with_reducible refine Z.s_gnil ?_
  | with_reducible refine Z.s_yes ?_
  | with_reducible refine Z.s_ref (P := _) ?_
  | with_reducible refine Z.s_str (P := _) ?_
  | with_reducible refine Z.s_one (P := _) ?_
  | with_reducible refine Z.s_m1 ?_
  | with_reducible refine Z.s_m0 ?_
  | with_reducible refine Z.s_isStr ?_))
namespace Z
open PySem PySem.Spec PyProof.Rows L2 G
/-- more of the builtins' names are free -/
structure Txt2 (mg : Str → Option Value) : Prop extends Txt mg where
  isinstance : mg "isinstance" = none
  str : mg "str" = none
  all : mg "all" = none
  zip : mg "zip" = none
  set : mg "set" = none
  max : mg "max" = none
  min : mg "min" = none
  abs : mg "abs" = none
  dict : mg "dict" = none
  repr : mg "repr" = none
/-- a number of the program's own -/
def Num (mg : Str → Option Value) (x : Str) (n : Int) : Prop := ∃ t, mg x = some (.int n t)
section
variable {P : Program} {w : World} {K : PySem.W.Frag} {mg : Str → Option Value} {base : Heap}
theorem one_lt (c d : Nat) : decide ((⟨#[c]⟩ : Str).cps.toList < (⟨#[d]⟩ : Str).cps.toList) = decide (c < d) := by
  have e : ((⟨#[c]⟩ : Str).cps.toList < (⟨#[d]⟩ : Str).cps.toList) ↔ c < d := by
    show ([c] < [d]) ↔ c < d
    rw [List.cons_lt_cons_iff]
    simp
  by_cases h : c < d
  · rw [decide_eq_true h, decide_eq_true (e.mpr h)]
  · rw [decide_eq_false h, decide_eq_false fun z => h (e.mp z)]
section
variable {H : Hp} {Q : VK} {a b : Str}
theorem a_ltS (q : Q (.bl (decide (a.cps.toList < b.cps.toList))) H) : Z.rLt (.str a) (.str b) H Q := q
theorem a_leS (q : Q (.bl (!decide (b.cps.toList < a.cps.toList))) H) : Z.rLe (.str a) (.str b) H Q := q
end
theorem str_a : (Str.ofString "a") = ⟨#[97]⟩ := by decide +kernel
theorem str_z : (Str.ofString "z") = ⟨#[122]⟩ := by decide +kernel
theorem take_sign {z : Str} {i c : Nat} (h : z.cps[i]? = some c) : z.cps.toList.take (i + 1) = z.cps.toList.take i ++ [c] := by
  rw [List.take_add_one, Array.getElem?_toList, h]
  rfl
theorem full_signs (z : Str) : z.cps.toList.take z.cps.size = z.cps.toList := by
  have : z.cps.size = z.cps.toList.length := Array.length_toList.symm
  rw [this, List.take_length]
/-- are all its signs letters? -/
def spLetters : Sp := fun vs H Q _ => ∃ z : Str, vs = [.str z] ∧ z.length ≤ 100000 ∧ ∀ H1, Same H H1 → Q (.bl (allLetB z)) H1
abbrev sare_letters : Stmt := topS 14
theorem scare_letters : FnScope ["text", "letter"] ["text"] (defScope sare_letters) := ⟨rfl, rfl, rfl, by decide +kernel, rfl, by decide +kernel, by decide +kernel⟩
theorem ok_are_letters {f : Addr} {fd : FuncData} (T : Txt2 mg) (D : Def K mg "are_letters" sare_letters ["text"] f fd) : FnOk P w K mg base CX0 1 f fd ["text"] spLetters := by
  refine D.F.ok scare_letters (fun vs H Q E h => ?_) (fun cdv A outer s H vs Q E hr h => ?_)
  · obtain ⟨z, rfl, _⟩ := h
    rfl
  · obtain ⟨z, rfl, small, k⟩ := h
    have zl : z.cps.size ≤ 100000 := small
    refine ⟨_, (pss_one (ps_ret (pe_callB (Z.k_all (K := K) rfl) (by rfl) T.all (by decide +kernel) (pa_cons (pe_lc (own := [("letter", 1)]) (by rfl) scare_letters.nd (pi_str (pv 0)) (blkOk_by (own := [("letter", 1)]) (N := ["text", "letter"]) (sc := defScope sare_letters) (by decide +kernel))
   (fun _ _ _ _ _ => (pg_name (i := 1) scare_letters.nd rfl (by first | exact Or.inl rfl | exact Or.inr rfl))) (fun _ _ _ _ _ => pts_nil) (fun _ _ _ _ _ => (pe_chain Z.op_le Z.op_le pe_str (pv 1) pe_str))) pa_nil)))), ?_⟩
    walk_at "st"
    refine comp walkS (Same H) (fun i acc H2 => acc = (z.cps.toList.take i).map fun c => V.bl (letB c)) (Same.refl H) (fun L o H2 e m => same_upd m e) (fun _ _ _ _ _ _ _ h => h) rfl (fun _ _ _ _ _ => trivial) ?_ ?_
    · rintro L i acc x H2 fresh hi ⟨c, hc, rfl⟩ len m at_ rfl
      refine turn1 rfl ?_
      have fin : ∀ b : Bool, letB c = b → Put (Same H) (fun i acc H2 => acc = (z.cps.toList.take i).map fun c => V.bl (letB c)) L i (.bl b) H2 := by
        intro b e
        refine put fresh (fun L o H2 e m => same_upd m e) (fun _ _ _ _ _ _ _ h => h) at_ (by omega) len m ?_
        rw [take_sign hc, List.map_append, ← e]
        rfl
      walk_at "st"
      refine a_leS ?_
      rw [str_a, one_lt]
      by_cases c1 : c < 97
      · rw [decide_eq_true c1]
        refine s_bl (P := _) ?_
        refine iteF (fin false ?_)
        unfold letB
        rw [decide_eq_false (by omega), Bool.false_and]
      · rw [decide_eq_false c1]
        refine s_bl (P := _) ?_
        refine iteT ?_
        walk_at "st"
        refine a_leS ?_
        rw [str_z, one_lt]
        refine fin _ ?_
        unfold letB
        rw [decide_eq_true (show 97 ≤ c by omega), Bool.true_and]
        by_cases c2 : 122 < c
        · rw [decide_eq_true c2, decide_eq_false (by omega)]
          rfl
        · rw [decide_eq_false c2, decide_eq_true (by omega)]
          rfl
    · rintro L acc H2 fresh len m at_ rfl
      rw [full_signs] at at_
      walk_at "st"
      refine ⟨z.cps.toList.map letB, SqL.of ?_, ?_⟩
      · rw [List.map_map]
        exact at_
      · have e : (z.cps.toList.map letB).all id = allLetB z := by
          rw [List.all_map]
          rfl
        rw [e]
        exact k H2 m
theorem item {H : Hp} {Q : VK} {a : Addr} {xs : List V} {i : Int} {v : V} (h : SqL K H a xs) (hi : atI xs i = some v) (q : Q v H) : Z.rItem K (.ref a) (.int i) H Q := ⟨xs, v, .inl h, hi, q⟩
theorem itemT {H : Hp} {Q : VK} {a : Addr} {xs : List V} {i : Int} {v : V} (h : SqT K H a xs) (hi : atI xs i = some v) (q : Q v H) : Z.rItem K (.ref a) (.int i) H Q := ⟨xs, v, .inr h, hi, q⟩
end
end Z
local macro_rules | `(tactic| walk_at "st") => `(tactic| repeat (first
  | ((with_reducible refine' Z.s_var ?h ?_); (case h => exact rfl))
  | with_reducible refine Z.s_c ?_
  | with_reducible refine Z.s_op ?_
  | with_reducible refine Z.s_un ?_
  | with_reducible refine Z.s_nil ?_
  | with_reducible refine Z.s_cons ?_
  | with_reducible refine Z.s_cb ?_
  | with_reducible refine Z.s_call ?_
  | with_reducible refine Z.s_tup ?_
  | with_reducible refine Z.s_lst ?_
  | with_reducible refine Z.s_test ?_
  | with_reducible refine Z.s_B ?_
  | with_reducible refine Z.s_and ?_
  | with_reducible refine Z.s_or ?_
  | with_reducible refine Z.s_not ?_
  | with_reducible refine Z.s_andV ?_
  | with_reducible refine Z.s_orV ?_
  | with_reducible refine Z.s_notV ?_
  | with_reducible refine Z.s_if ?_
  | with_reducible refine Z.s_chain ?_
  | with_reducible refine Z.s_seq ?_
  | with_reducible refine Z.s_next ?_
  | with_reducible refine Z.s_drop ?_
  | with_reducible refine Z.s_ret ?_
  | with_reducible refine Z.s_ifS ?_
  | with_reducible refine Z.s_asg ?_
  | with_reducible refine Z.s_name ?_
  | with_reducible refine Z.s_par ?_
  | with_reducible refine Z.s_item ?_
  | with_reducible refine Z.s_part ?_
  | with_reducible refine Z.s_noPart ?_
  | with_reducible refine Z.s_cut ?_
  | with_reducible refine Z.s_bm0 ?_
  | with_reducible refine Z.s_bm ?_
  | with_reducible refine Z.s_bl (P := _) ?_
  | with_reducible refine Z.s_two (P := _) ?_
  | with_reducible refine Z.s_int (P := _) ?_
  | with_reducible refine Z.a_addI ?_
  | with_reducible refine Z.a_subI ?_
  | with_reducible refine Z.a_ltI ?_
  | with_reducible refine Z.a_leI ?_
  | with_reducible refine Z.a_gtI ?_
  | with_reducible refine Z.a_geI ?_
  | with_reducible refine Z.a_eqI ?_
  | with_reducible refine Z.a_neI ?_
  | with_reducible refine Z.a_eqS ?_
  | with_reducible refine Z.a_neS ?_
  | with_reducible refine Z.a_eqB ?_
  | with_reducible refine Z.a_neB ?_
  | with_reducible refine Z.a_isN ?_
  | with_reducible refine Z.a_notN ?_
  | with_reducible refine Z.a_setL ?_
  | with_reducible refine Z.a_int ?_
  | with_reducible refine Z.a_intB ?_
  | with_reducible refine Z.a_abs ?_
  | with_reducible refine Z.a_max ?_
  | with_reducible refine Z.a_min ?_
  | with_reducible refine Z.s_lc ?_
  | with_reducible refine Z.s_for ?_
  | with_reducible refine Z.s_iList ?_
  | with_reducible refine Z.s_iTup ?_
  | with_reducible refine Z.s_iStr ?_
  | with_reducible refine Z.s_rng1 ?_
  | with_reducible refine Z.s_rng2 ?_
  | with_reducible refine Z.s_gtup ?_
  | with_reducible refine Z.s_gcons ?_
  | with_reducible refine Z.s_gnil ?_
  | with_reducible refine Z.s_yes ?_
  | with_reducible refine Z.s_ref (P := _) ?_
  | with_reducible refine Z.s_str (P := _) ?_
  | with_reducible refine Z.s_one (P := _) ?_
  | with_reducible refine Z.s_m1 ?_
  | with_reducible refine Z.s_m0 ?_
  | with_reducible refine Z.s_isStr ?_))
namespace Z
open PySem PySem.Spec PyProof.Rows L2 G
section
variable {P : Program} {w : World} {K : PySem.W.Frag} {mg : Str → Option Value} {base : Heap}
/-- if it is a text, then not a huge one -/
def Len (d : PyData) : Prop := ∀ z, d = .str z → z.length ≤ 1000000
theorem Len.lt {z : Str} (h : Len (.str z)) : z.length ≤ sizeLine := by
  have := h z rfl
  rw [sizeLine_eq]
  omega
theorem nmD_no {d : PyData} (h : ∀ z, d ≠ .str z) : nmD d = false := by
  cases d with
  | str z => exact absurd rfl (h z)
  | _ => rfl
theorem sgD_no {d : PyData} (h : ∀ z, d ≠ .str z) : sgD d = false := by
  cases d with
  | str z => exact absurd rfl (h z)
  | _ => rfl
/-- the law's own: is it a name? signs? -/
def spJudge (K : PySem.W.Frag) (f : PyData → Bool) : Sp := fun vs H Q _ => ∃ v d, vs = [v] ∧ Dz K H v d ∧ Len d ∧ ∀ H1, Same H H1 → Q (.bl (f d)) H1
abbrev sis_name : Stmt := topS 11
theorem scis_name : FnScope ["value"] ["value"] (defScope sis_name) := ⟨rfl, rfl, rfl, by decide +kernel, rfl, by decide +kernel, by decide +kernel⟩
theorem ok_is_name {f fl : Addr} {fd fdl : FuncData} (T : Txt2 mg) (N : Num mg "MAX_NAME" 8) (D : Def K mg "is_name" sis_name ["value"] f fd) (Dare_letters : Def K mg "are_letters" sare_letters ["text"] fl fdl) : FnOk P w K mg base CX0 2 f fd ["value"] (spJudge K nmD) := by
  have Gare_letters : FnOk P w K mg base CX0 1 fl fdl ["text"] spLetters := ok_are_letters T Dare_letters
  refine D.F.ok scis_name (fun vs H Q E h => ?_) (fun cdv A outer s H vs Q E hr h => ?_)
  · obtain ⟨v, d, rfl, _⟩ := h
    rfl
  · obtain ⟨v, d, rfl, dz, ln, k⟩ := h
    have hu := hr.units
    obtain ⟨t8, c_MAX_NAME⟩ := N
    refine ⟨_, (pss_cons (ps_if (PW.pt (pw_or (pt_not (pt_val (pe_callB (Z.k_is (K := K)) (by rfl) T.isinstance (by decide +kernel) (pa_cons (pv 0) (pa_cons (pe_bltn (v := .ty "str") (by rfl) T.str (by decide +kernel) rfl) pa_nil))))) (pw_or1 (pt_not (pt_chain Z.op_le Z.op_le pe_int (pe_callB (Z.k_len (K := K)) (by rfl) T.len (by decide +kernel) (pa_cons (pv 0) pa_nil)) (pe_glob (v := .int 8) (by rfl) c_MAX_NAME ⟨_, rfl⟩))))))
  (pss_one (ps_ret pe_bl))
  pss_nil)
 (pss_one (ps_ret (pe_and (pe_call Gare_letters (hr.mono (by decide)) (by rfl) Dare_letters.g Dare_letters.F.kp Dare_letters.b .nil pass0 (pa_cons (pv 0) pa_nil)) (pe_one (pe_cmpR (Z.k_ne (K := K) hu) (pv 0) pe_str (nomark _))))))), ?_⟩
    walk_at "st"
    refine is_str dz ?_ (fun no => ?_)
    · rintro z rfl rfl
      have l : z.length = z.cps.size := rfl
      walk_at "st"
      refine iteF ?_
      walk_at "st"
      refine ⟨ln.lt, ?_⟩
      walk_at "st"
      by_cases c1 : (1 : Int) ≤ ((z.length : Nat) : Int)
      · rw [decide_eq_true c1]
        refine iteT ?_
        walk_at "st"
        by_cases c2 : ((z.length : Nat) : Int) ≤ 8
        · rw [decide_eq_true c2]
          refine iteF ?_
          walk_at "st"
          refine ⟨z, rfl, by omega, fun H1 m => ?_⟩
          refine s_bl (P := _) ?_
          have e : wordB 8 z = allLetB z := by
            unfold wordB allLetB
            rw [decide_eq_true (show 0 < z.cps.size by omega), decide_eq_true (show z.cps.size ≤ 8 by omega)]
            rfl
          have e2 : nmD (.str z) = (allLetB z && !decide (z = Str.ofString "end")) := by
            show nameB z = _
            unfold nameB
            rw [e]
          rw [e2] at k
          cases b : allLetB z with
          | false =>
            refine iteF ?_
            rw [b] at k
            exact k H1 m
          | true =>
            refine iteT ?_
            rw [b, Bool.true_and] at k
            walk_at "st"
            exact k H1 m
        · rw [decide_eq_false c2]
          refine iteT ?_
          walk_at "st"
          have e : nmD (.str z) = false := by
            show nameB z = _
            unfold nameB wordB
            rw [decide_eq_false (show ¬ z.cps.size ≤ 8 by omega), Bool.and_false]
            rfl
          rw [← e]
          exact k H (Same.refl H)
      · rw [decide_eq_false c1]
        refine iteF ?_
        walk_at "st"
        refine iteT ?_
        walk_at "st"
        have e : nmD (.str z) = false := by
          show nameB z = _
          unfold nameB wordB
          rw [decide_eq_false (show ¬ 0 < z.cps.size by omega)]
          rfl
        rw [← e]
        exact k H (Same.refl H)
    · walk_at "st"
      refine iteT (iteT ?_)
      walk_at "st"
      rw [← nmD_no no]
      exact k H (Same.refl H)
end
end Z
local macro_rules | `(tactic| walk_at "st") => `(tactic| repeat (first
  | ((with_reducible refine' Z.s_var ?h ?_); (case h => exact rfl))
  | with_reducible refine Z.s_c ?_
  | with_reducible refine Z.s_op ?_
  | with_reducible refine Z.s_un ?_
  | with_reducible refine Z.s_nil ?_
  | with_reducible refine Z.s_cons ?_
  | with_reducible refine Z.s_cb ?_
  | with_reducible refine Z.s_call ?_
  | with_reducible refine Z.s_tup ?_
  | with_reducible refine Z.s_lst ?_
  | with_reducible refine Z.s_test ?_
  | with_reducible refine Z.s_B ?_
  | with_reducible refine Z.s_and ?_
  | with_reducible refine Z.s_or ?_
  | with_reducible refine Z.s_not ?_
  | with_reducible refine Z.s_andV ?_
  | with_reducible refine Z.s_orV ?_
  | with_reducible refine Z.s_notV ?_
  | with_reducible refine Z.s_if ?_
  | with_reducible refine Z.s_chain ?_
  | with_reducible refine Z.s_seq ?_
  | with_reducible refine Z.s_next ?_
  | with_reducible refine Z.s_drop ?_
  | with_reducible refine Z.s_ret ?_
  | with_reducible refine Z.s_ifS ?_
  | with_reducible refine Z.s_asg ?_
  | with_reducible refine Z.s_name ?_
  | with_reducible refine Z.s_par ?_
  | with_reducible refine Z.s_item ?_
  | with_reducible refine Z.s_part ?_
  | with_reducible refine Z.s_noPart ?_
  | with_reducible refine Z.s_cut ?_
  | with_reducible refine Z.s_bm0 ?_
  | with_reducible refine Z.s_bm ?_
  | with_reducible refine Z.s_bl (P := _) ?_
  | with_reducible refine Z.s_two (P := _) ?_
  | with_reducible refine Z.s_int (P := _) ?_
  | with_reducible refine Z.a_addI ?_
  | with_reducible refine Z.a_subI ?_
  | with_reducible refine Z.a_ltI ?_
  | with_reducible refine Z.a_leI ?_
  | with_reducible refine Z.a_gtI ?_
  | with_reducible refine Z.a_geI ?_
  | with_reducible refine Z.a_eqI ?_
  | with_reducible refine Z.a_neI ?_
  | with_reducible refine Z.a_eqS ?_
  | with_reducible refine Z.a_neS ?_
  | with_reducible refine Z.a_eqB ?_
  | with_reducible refine Z.a_neB ?_
  | with_reducible refine Z.a_isN ?_
  | with_reducible refine Z.a_notN ?_
  | with_reducible refine Z.a_setL ?_
  | with_reducible refine Z.a_int ?_
  | with_reducible refine Z.a_intB ?_
  | with_reducible refine Z.a_abs ?_
  | with_reducible refine Z.a_max ?_
  | with_reducible refine Z.a_min ?_
  | with_reducible refine Z.s_lc ?_
  | with_reducible refine Z.s_for ?_
  | with_reducible refine Z.s_iList ?_
  | with_reducible refine Z.s_iTup ?_
  | with_reducible refine Z.s_iStr ?_
  | with_reducible refine Z.s_rng1 ?_
  | with_reducible refine Z.s_rng2 ?_
  | with_reducible refine Z.s_gtup ?_
  | with_reducible refine Z.s_gcons ?_
  | with_reducible refine Z.s_gnil ?_
  | with_reducible refine Z.s_yes ?_
  | with_reducible refine Z.s_ref (P := _) ?_
  | with_reducible refine Z.s_str (P := _) ?_
  | with_reducible refine Z.s_one (P := _) ?_
  | with_reducible refine Z.s_m1 ?_
  | with_reducible refine Z.s_m0 ?_
  | with_reducible refine Z.s_isStr ?_))
namespace Z
open PySem PySem.Spec PyProof.Rows L2 G
section
variable {P : Program} {w : World} {K : PySem.W.Frag} {mg : Str → Option Value} {base : Heap}
theorem s_zip {σ : L2.St} {H : Hp} {ta : TA} {R : It → Hp → Prop} (q : ta σ H fun vs H1 => ∃ x y : Str, vs = [.str x, .str y] ∧ R (ItzS x y) H1) : iZipS ta σ H R := q
theorem s_texts {x y : Str} {P : Str → Str → Prop} (q : P x y) : ∃ a b : Str, [V.str x, V.str y] = [.str a, .str b] ∧ P a b := ⟨x, y, rfl, q⟩
theorem cutS_from (z : Str) (i : Nat) : (cutS z (some (i : Nat)) none).cps.toList = z.cps.toList.drop i := by
  unfold cutS
  rw [HT.sIx_none, HT.sIx_nat]
  show ((z.cps.toList.drop (min i z.length)).take (z.length - min i z.length)) = _
  have l : z.cps.toList.length = z.length := Array.length_toList
  by_cases c : i ≤ z.length
  · rw [Nat.min_eq_left c]
    exact List.take_of_length_le (by rw [List.length_drop]; omega)
  · rw [Nat.min_eq_right (by omega), List.drop_of_length_le (by omega), List.drop_of_length_le (by omega), List.take_nil]
theorem cutS_mid (z : Str) (i j : Nat) : (cutS z (some (i : Nat)) (some (j : Nat))).cps.toList = (z.cps.toList.drop i).take (j - i) := by
  unfold cutS
  rw [HT.sIx_nat, HT.sIx_nat]
  show ((z.cps.toList.drop (min i z.length)).take (min j z.length - min i z.length)) = _
  have l : z.cps.toList.length = z.length := Array.length_toList
  by_cases c : i ≤ z.length
  · rw [Nat.min_eq_left c, List.take_eq_take_iff, List.length_drop]
    omega
  · rw [Nat.min_eq_right (show z.length ≤ i by omega), List.drop_of_length_le (show z.cps.toList.length ≤ z.length by omega), List.drop_of_length_le (show z.cps.toList.length ≤ i by omega), List.take_nil, List.take_nil]
theorem walkZ {x y : Str} : Walk (ItzS x y) (min x.cps.size y.cps.size) (fun _ => True) (fun i H v H1 => ∃ T c d, v = .ref T ∧ H T = none ∧ H1 = upd H T (.tup [.str ⟨#[c]⟩, .str ⟨#[d]⟩]) ∧ x.cps[i]? = some c ∧ y.cps[i]? = some d) :=
  ⟨fun i _ hi _ => ⟨by omega, by omega⟩, fun _ _ => ⟨by omega, by omega, by omega⟩, fun _ _ _ _ _ _ q => q⟩
/-- a comprehension over two texts -/
theorem compZ {x y : Str} {g : TG} {tt : TT} {te : TE} {vs : List Nat} {σ : L2.St} {H : Hp} {Q : VK} (M : Hp → Prop) (Iv : Nat → List V → Prop) (m0 : M H) (mu : ∀ L o H2, H L = none → M H2 → M (upd H2 L o)) (mn : ∀ T o H2, H2 T = none → M H2 → M (upd H2 T o)) (i0 : Iv 0 [])
    (hs : ∀ L i acc T c d H2, H L = none → x.cps[i]? = some c → y.cps[i]? = some d → acc.length ≤ i → M H2 → H2 L = some (.lst acc) → Iv i acc → H2 T = some (.tup [.str ⟨#[c]⟩, .str ⟨#[d]⟩]) → Turns M (fun i acc _ => Iv i acc) L i g tt te vs σ (.ref T) H2)
    (done : ∀ L acc H2, H L = none → M H2 → H2 L = some (.lst acc) → Iv (min x.cps.size y.cps.size) acc → Q (.ref L) H2) : CompOk (ItzS x y) g tt te vs σ H Q := by
  intro L fresh
  refine lc_it walkZ (At M (fun i acc _ => Iv i acc) L) ⟨[], mu _ _ _ fresh m0, upd_same, Nat.le_refl _, i0⟩ (fun _ _ _ _ => trivial) ?_ ?_
  · rintro i v H2 Hy hi ⟨acc, m, at_, len, iv⟩ ⟨T, c, d, rfl, nT, rfl, hc, hd⟩
    refine hs L i acc T c d _ fresh hc hd len (mn _ _ _ nT m) ?_ iv upd_same
    rw [upd_ne (ne_of_none at_ nT)]
    exact at_
  · rintro H2 ⟨acc, m, at_, len, iv⟩
    exact done L acc H2 fresh m at_ iv
/-- each is less than the next one -/
def nexts (l : List Nat) : List (Nat × Nat) := l.zip (l.drop 1)
theorem upB_is : ∀ l : List Nat, upB l = (nexts l).all fun p => decide (p.1 < p.2)
  | [] => rfl
  | [_] => rfl
  | c :: d :: r => by
    have ih := upB_is (d :: r)
    show (decide (c < d) && upB (d :: r)) = _
    rw [ih]
    rfl
theorem nexts_len (l : List Nat) : (nexts l).length = min l.length (l.length - 1) := by
  unfold nexts
  rw [List.length_zip, List.length_drop]
theorem nexts_at {l : List Nat} {i c d : Nat} (hc : l[i]? = some c) (hd : (l.drop 1)[i]? = some d) : (nexts l).take (i + 1) = (nexts l).take i ++ [(c, d)] := by
  have e : (nexts l)[i]? = some (c, d) := by
    unfold nexts
    rw [List.getElem?_zip_eq_some]
    exact ⟨hc, hd⟩
  rw [List.take_add_one, e]
  rfl
abbrev sis_signs : Stmt := topS 12
theorem scis_signs : FnScope ["value", "low", "high"] ["value"] (defScope sis_signs) := ⟨rfl, rfl, rfl, by decide +kernel, rfl, by decide +kernel, by decide +kernel⟩
theorem ok_is_signs {f fl : Addr} {fd fdl : FuncData} (T : Txt2 mg) (N : Num mg "MAX_SIGNS" 4) (D : Def K mg "is_signs" sis_signs ["value"] f fd) (Dare_letters : Def K mg "are_letters" sare_letters ["text"] fl fdl) : FnOk P w K mg base CX0 2 f fd ["value"] (spJudge K sgD) := by
  have Gare_letters : FnOk P w K mg base CX0 1 fl fdl ["text"] spLetters := ok_are_letters T Dare_letters
  refine D.F.ok scis_signs (fun vs H Q E h => ?_) (fun cdv A outer s H vs Q E hr h => ?_)
  · obtain ⟨v, d, rfl, _⟩ := h
    rfl
  · obtain ⟨v, d, rfl, dz, ln, k⟩ := h
    have hu := hr.units
    obtain ⟨t4, c_MAX_SIGNS⟩ := N
    refine ⟨_, (pss_cons (ps_if (PW.pt (pw_or (pt_not (pt_val (pe_callB (Z.k_is (K := K)) (by rfl) T.isinstance (by decide +kernel) (pa_cons (pv 0) (pa_cons (pe_bltn (v := .ty "str") (by rfl) T.str (by decide +kernel) rfl) pa_nil))))) (pw_or1 (pt_not (pt_chain Z.op_le Z.op_le pe_int (pe_callB (Z.k_len (K := K)) (by rfl) T.len (by decide +kernel) (pa_cons (pv 0) pa_nil)) (pe_glob (v := .int 4) (by rfl) c_MAX_SIGNS ⟨_, rfl⟩))))))
  (pss_one (ps_ret pe_bl))
  pss_nil)
 (pss_one (ps_ret (pe_and (pe_call Gare_letters (hr.mono (by decide)) (by rfl) Dare_letters.g Dare_letters.F.kp Dare_letters.b .nil pass0 (pa_cons (pv 0) pa_nil)) (pe_one (pe_callB (Z.k_all (K := K) rfl) (by rfl) T.all (by decide +kernel) (pa_cons (pe_lc (own := [("low", 1), ("high", 2)]) (by rfl) scis_signs.nd (Z.pi_zipS (by rfl) T.zip (pa_cons (pv 0) (pa_cons (pe_slice (Z.k_cut (K := K)) (pv 0) (po_some pe_int) po_none) pa_nil))) (blkOk_by (own := [("low", 1), ("high", 2)]) (N := ["value", "low", "high"]) (sc := defScope sis_signs) (by decide +kernel))
   (fun _ _ _ _ _ => (Z.k_tup (K := K) (n := 2) rfl (pgs_cons (pg_name (i := 1) scis_signs.nd rfl (by first | exact Or.inl rfl | exact Or.inr rfl)) (pgs_cons (pg_name (i := 2) scis_signs.nd rfl (by first | exact Or.inl rfl | exact Or.inr rfl)) pgs_nil)))) (fun _ _ _ _ _ => pts_nil) (fun _ _ _ _ _ => (pe_cmpR Z.op_lt (pv 1) (pv 2) (nomark _)))) pa_nil))))))), ?_⟩
    walk_at "st"
    refine is_str dz ?_ (fun no => ?_)
    · rintro z rfl rfl
      have l : z.length = z.cps.size := rfl
      walk_at "st"
      refine iteF ?_
      walk_at "st"
      refine ⟨ln.lt, ?_⟩
      walk_at "st"
      by_cases c1 : (1 : Int) ≤ ((z.length : Nat) : Int)
      · rw [decide_eq_true c1]
        refine iteT ?_
        walk_at "st"
        by_cases c2 : ((z.length : Nat) : Int) ≤ 4
        · rw [decide_eq_true c2]
          refine iteF ?_
          walk_at "st"
          refine ⟨z, rfl, by omega, fun H1 m => ?_⟩
          refine s_bl (P := _) ?_
          have e : wordB 4 z = allLetB z := by
            unfold wordB allLetB
            rw [decide_eq_true (show 0 < z.cps.size by omega), decide_eq_true (show z.cps.size ≤ 4 by omega)]
            rfl
          have e2 : sgD (.str z) = (allLetB z && upB z.cps.toList) := by
            show signsB z = _
            unfold signsB
            rw [e]
          rw [e2] at k
          cases b : allLetB z with
          | false =>
            refine iteF ?_
            rw [b] at k
            exact k H1 m
          | true =>
            refine iteT ?_
            rw [b, Bool.true_and] at k
            walk_at "st"
            refine s_zip ?_
            walk_at "st"
            refine ⟨ln.lt, ?_⟩
            walk_at "st"
            refine s_texts (P := _) ?_
            have cut := cutS_from z 1
            have cl : (cutS z (some ((1 : Nat) : Int)) none).cps.size = z.cps.size - 1 := by
              rw [← Array.length_toList, cut, List.length_drop, Array.length_toList]
            refine compZ (Same H) (fun i acc => acc = ((nexts z.cps.toList).take i).map fun p => V.bl (decide (p.1 < p.2))) m (fun L o H2 e m2 => same_upd m2 (m.free e)) (fun T o H2 e m2 => same_new m2 e) rfl ?_ ?_
            · rintro L i acc T c d H2 fresh hc hd len m2 at_ rfl hT
              refine ⟨T, [.str ⟨#[c]⟩, .str ⟨#[d]⟩], rfl, SqT.of hT, rfl, ?_⟩
              have lt : i < z.cps.size := (Array.getElem?_eq_some_iff.mp hc).1
              have hd2 : (z.cps.toList.drop 1)[i]? = some d := by
                rw [← cut, Array.getElem?_toList]
                exact hd
              walk_at "st"
              refine ⟨rfl, ?_⟩
              walk_at "st"
              refine iteT ?_
              walk_at "st"
              refine a_ltS ?_
              rw [one_lt]
              refine put fresh (fun L o H2 e m2 => same_upd m2 (m.free e)) (fun _ _ _ _ _ _ _ h => h) at_ (by omega) len m2 ?_
              rw [nexts_at (by rw [Array.getElem?_toList]; exact hc) hd2, List.map_append]
              rfl
            · rintro L acc H2 fresh m2 at_ rfl
              have full : (nexts z.cps.toList).take (min z.cps.size (cutS z (some ((1 : Nat) : Int)) none).cps.size) = nexts z.cps.toList := by
                rw [cl]
                refine List.take_of_length_le ?_
                rw [nexts_len, Array.length_toList]
                exact Nat.le_refl _
              walk_at "st"
              refine ⟨(nexts z.cps.toList).map fun p => decide (p.1 < p.2), SqL.of ?_, ?_⟩
              · rw [List.map_map]
                rw [← full]
                exact at_
              · have e3 : ((nexts z.cps.toList).map fun p => decide (p.1 < p.2)).all id = upB z.cps.toList := by
                  rw [upB_is, List.all_map]
                  rfl
                rw [e3]
                exact k H2 m2
        · rw [decide_eq_false c2]
          refine iteT ?_
          walk_at "st"
          have e : sgD (.str z) = false := by
            show signsB z = _
            unfold signsB wordB
            rw [decide_eq_false (show ¬ z.cps.size ≤ 4 by omega), Bool.and_false]
            rfl
          rw [← e]
          exact k H (Same.refl H)
      · rw [decide_eq_false c1]
        refine iteF ?_
        walk_at "st"
        refine iteT ?_
        walk_at "st"
        have e : sgD (.str z) = false := by
          show signsB z = _
          unfold signsB wordB
          rw [decide_eq_false (show ¬ 0 < z.cps.size by omega)]
          rfl
        rw [← e]
        exact k H (Same.refl H)
    · walk_at "st"
      refine iteT (iteT ?_)
      walk_at "st"
      rw [← sgD_no no]
      exact k H (Same.refl H)
end
end Z
local macro_rules | `(tactic| walk_at "st") => `(tactic| repeat (first
  | ((with_reducible refine' Z.s_var ?h ?_); (case h => exact rfl))
  | with_reducible refine Z.s_c ?_
  | with_reducible refine Z.s_op ?_
  | with_reducible refine Z.s_un ?_
  | with_reducible refine Z.s_nil ?_
  | with_reducible refine Z.s_cons ?_
  | with_reducible refine Z.s_cb ?_
  | with_reducible refine Z.s_call ?_
  | with_reducible refine Z.s_tup ?_
  | with_reducible refine Z.s_lst ?_
  | with_reducible refine Z.s_test ?_
  | with_reducible refine Z.s_B ?_
  | with_reducible refine Z.s_and ?_
  | with_reducible refine Z.s_or ?_
  | with_reducible refine Z.s_not ?_
  | with_reducible refine Z.s_andV ?_
  | with_reducible refine Z.s_orV ?_
  | with_reducible refine Z.s_notV ?_
  | with_reducible refine Z.s_if ?_
  | with_reducible refine Z.s_chain ?_
  | with_reducible refine Z.s_seq ?_
  | with_reducible refine Z.s_next ?_
  | with_reducible refine Z.s_drop ?_
  | with_reducible refine Z.s_ret ?_
  | with_reducible refine Z.s_ifS ?_
  | with_reducible refine Z.s_asg ?_
  | with_reducible refine Z.s_name ?_
  | with_reducible refine Z.s_par ?_
  | with_reducible refine Z.s_item ?_
  | with_reducible refine Z.s_part ?_
  | with_reducible refine Z.s_noPart ?_
  | with_reducible refine Z.s_cut ?_
  | with_reducible refine Z.s_bm0 ?_
  | with_reducible refine Z.s_bm ?_
  | with_reducible refine Z.s_bl (P := _) ?_
  | with_reducible refine Z.s_two (P := _) ?_
  | with_reducible refine Z.s_int (P := _) ?_
  | with_reducible refine Z.a_addI ?_
  | with_reducible refine Z.a_subI ?_
  | with_reducible refine Z.a_ltI ?_
  | with_reducible refine Z.a_leI ?_
  | with_reducible refine Z.a_gtI ?_
  | with_reducible refine Z.a_geI ?_
  | with_reducible refine Z.a_eqI ?_
  | with_reducible refine Z.a_neI ?_
  | with_reducible refine Z.a_eqS ?_
  | with_reducible refine Z.a_neS ?_
  | with_reducible refine Z.a_eqB ?_
  | with_reducible refine Z.a_neB ?_
  | with_reducible refine Z.a_isN ?_
  | with_reducible refine Z.a_notN ?_
  | with_reducible refine Z.a_setL ?_
  | with_reducible refine Z.a_int ?_
  | with_reducible refine Z.a_intB ?_
  | with_reducible refine Z.a_abs ?_
  | with_reducible refine Z.a_max ?_
  | with_reducible refine Z.a_min ?_
  | with_reducible refine Z.s_lc ?_
  | with_reducible refine Z.s_for ?_
  | with_reducible refine Z.s_iList ?_
  | with_reducible refine Z.s_iTup ?_
  | with_reducible refine Z.s_iStr ?_
  | with_reducible refine Z.s_rng1 ?_
  | with_reducible refine Z.s_rng2 ?_
  | with_reducible refine Z.s_gtup ?_
  | with_reducible refine Z.s_gcons ?_
  | with_reducible refine Z.s_gnil ?_
  | with_reducible refine Z.s_yes ?_
  | with_reducible refine Z.s_ref (P := _) ?_
  | with_reducible refine Z.s_str (P := _) ?_
  | with_reducible refine Z.s_one (P := _) ?_
  | with_reducible refine Z.s_m1 ?_
  | with_reducible refine Z.s_m0 ?_
  | with_reducible refine Z.s_isStr ?_))
namespace Z
open PySem PySem.Spec PyProof.Rows L2 G
section
variable {P : Program} {w : World} {K : PySem.W.Frag} {mg : Str → Option Value} {base : Heap}
theorem k_lenSet {X : Cx} {a : Expr} {ta : TE} {p p2 q pos : Pos} (hc : X.calm = true) (hg : Gl X "len") (hm : X.mg "len" = none) (hg2 : Gl X "set") (hm2 : X.mg "set" = none) (ha : PE X a ta) (h : X.K = K := by rfl)
    (na : starEach [a] X.env = (false, eval a X.env) :: starEach [] X.env := by rfl) : PE X (.Call (.Name "len" p) [.Call (.Name "set" p2) [a] [] q] [] pos) (tLenSetS K ta) := by
  subst h
  exact pe_lenSetS hc hg hm hg2 hm2 ha na
theorem s_lenSet {σ : L2.St} {H : Hp} {Q : VK} {ta : TE} (q : ta σ H fun x H1 => ∃ l, ∃ xs : List Str, x = .ref l ∧ SqL K H1 l (xs.map V.str) ∧ xs.length < 1000 ∧ Q (.int (ded xs xs.length).length) H1) : tLenSetS K ta σ H Q := q
theorem fold_ded : ∀ (xs l : List Str), (xs.foldl step_dedup l).length = l.length + xs.length ↔ (∀ x ∈ xs, x ∉ l) ∧ xs.Nodup
  | [], l => by simp
  | x :: xs, l => by
    rw [List.foldl_cons]
    by_cases c : x ∈ l
    · have e : step_dedup l x = l := by
        unfold step_dedup
        rw [if_pos (by rw [List.any_eq_true]; exact ⟨x, c, beq_self_eq_true x⟩)]
      have le := length_foldl_step_dedup_le xs l
      rw [e]
      constructor
      · intro h
        rw [List.length_cons] at h
        omega
      · intro h
        exact absurd c (h.1 x List.mem_cons_self)
    · have e : step_dedup l x = l ++ [x] := by
        unfold step_dedup
        rw [if_neg]
        rw [List.any_eq_true]
        rintro ⟨y, hy, z⟩
        exact c (eq_of_beq z ▸ hy)
      have ih := fold_ded xs (l ++ [x])
      rw [e]
      rw [List.length_append, List.length_singleton] at ih
      rw [List.length_cons, show l.length + (xs.length + 1) = l.length + 1 + xs.length by omega, ih, List.nodup_cons]
      constructor
      · rintro ⟨h1, h2⟩
        refine ⟨fun y hy => ?_, fun z => h1 x z (List.mem_append_right _ (List.mem_singleton.mpr rfl)), h2⟩
        rcases List.mem_cons.mp hy with e3 | hy
        · rw [e3]
          exact c
        · exact fun z => h1 y hy (List.mem_append_left _ z)
      · rintro ⟨h1, h2, h3⟩
        refine ⟨fun y hy z => ?_, h3⟩
        rcases List.mem_append.mp z with z | z
        · exact h1 y (List.mem_cons_of_mem _ hy) z
        · rw [List.mem_singleton.mp z] at hy
          exact h2 hy
theorem ded_full (xs : List Str) : decide (((ded xs xs.length).length : Int) = (xs.length : Nat)) = decide xs.Nodup := by
  have h := fold_ded xs []
  unfold ded
  rw [List.take_length]
  rw [List.length_nil, Nat.zero_add] at h
  by_cases c : xs.Nodup
  · rw [decide_eq_true c, decide_eq_true (Int.ofNat_inj.mpr (h.mpr ⟨fun _ _ => List.not_mem_nil, c⟩))]
  · rw [decide_eq_false c, decide_eq_false fun z => c (h.mp (Int.ofNat_inj.mp z)).2]
/-! weights of parts -/
theorem Len.of {d : PyData} (h : wt d ≤ 10000000) : Len d := by
  rintro z rfl
  simp only [wt] at h
  omega
theorem wt_mem : ∀ {ds : List PyData} {d : PyData}, d ∈ ds → wt d ≤ wtAll ds
  | e :: ds, d, h => by
    simp only [wtAll]
    rcases List.mem_cons.mp h with h | h
    · rw [h]
      omega
    · have := wt_mem h
      omega
theorem wt_tup {ds : List PyData} {d : PyData} (h : wt (.tuple ds) ≤ 10000000) (m : d ∈ ds) : wt d ≤ 10000000 := by
  have := wt_mem m
  simp only [wt] at h
  omega
/-- a judge of data -/
def spIs (K : PySem.W.Frag) (f : PyData → Bool) : Sp := fun vs H Q _ => ∃ v d, vs = [v] ∧ Dz K H v d ∧ wt d ≤ 10000000 ∧ ∀ H1, Same H H1 → Q (.bl (f d)) H1
/-- a judge of a kind -/
def spKind (K : PySem.W.Frag) : Sp := fun vs H Q _ => ∃ v d n, vs = [v, .int (n : Nat)] ∧ Dz K H v d ∧ wt d ≤ 10000000 ∧ ∀ H1, Same H H1 → Q (.bl (kindD n d)) H1
/-- a judge of two kinds -/
def spBoth (K : PySem.W.Frag) : Sp := fun vs H Q _ => ∃ v u d e, vs = [v, u] ∧ Dz K H v d ∧ Dz K H u e ∧ wt d ≤ 10000000 ∧ wt e ≤ 10000000 ∧ ∀ H1, Same H H1 → Q (.bl (strsD d e)) H1
theorem strmD_no {d : PyData} (h : ∀ ds, d ≠ .tuple ds) : strmD d = false := by
  cases d with
  | tuple z => exact absurd rfl (h z)
  | _ => rfl
theorem strmD_len {ds : List PyData} (h : ds.length ≠ 2) : strmD (.tuple ds) = false := by
  match ds, h with
  | [], _ => rfl
  | [_], _ => rfl
  | [_, _], h => exact absurd rfl h
  | _ :: _ :: _ :: _, _ => rfl
theorem kindD_no {n : Nat} {d : PyData} (h : ∀ ds, d ≠ .tuple ds) : kindD n d = false := by
  cases d with
  | tuple z => exact absurd rfl (h z)
  | _ => rfl
theorem two_of {H : Hp} {xs : List V} {ds : List PyData} (h : DzAll K H xs ds) (l : ds.length = 2) : ∃ x y a b, xs = [x, y] ∧ ds = [a, b] ∧ Dz K H x a ∧ Dz K H y b := by
  match ds, l with
  | [a, b], _ =>
    cases h with
    | cons h1 h =>
      cases h with
      | cons h2 h =>
        cases h
        exact ⟨_, _, _, _, rfl, rfl, h1, h2⟩
theorem len_tup {H : Hp} {Q : VK} {a : Addr} {xs : List V} {ds : List PyData} (h : SqT K H a xs) (g : DzAll K H xs ds) (q : Q (.int (ds.length : Nat)) H) : Z.rLen K [.ref a] H Q := by
  refine .inl ⟨xs, .inr h, ?_⟩
  rw [g.len]
  exact q
abbrev s_is_stream : Stmt := topS 15
theorem sc_is_stream : FnScope ["value"] ["value"] (defScope s_is_stream) := ⟨rfl, rfl, rfl, by decide +kernel, rfl, by decide +kernel, by decide +kernel⟩
theorem ok_is_stream {f fn fs fl : Addr} {fd fdn fds fdl : FuncData} (T : Txt2 mg) (N8 : Num mg "MAX_NAME" 8) (N4 : Num mg "MAX_SIGNS" 4) (D : Def K mg "_is_stream" s_is_stream ["value"] f fd) (Dis_name : Def K mg "is_name" sis_name ["value"] fn fdn) (Dis_signs : Def K mg "is_signs" sis_signs ["value"] fs fds)
    (Dare_letters : Def K mg "are_letters" sare_letters ["text"] fl fdl) : FnOk P w K mg base CX0 3 f fd ["value"] (spIs K strmD) := by
  have Gis_name : FnOk P w K mg base CX0 2 fn fdn ["value"] (spJudge K nmD) := ok_is_name T N8 Dis_name Dare_letters
  have Gis_signs : FnOk P w K mg base CX0 2 fs fds ["value"] (spJudge K sgD) := ok_is_signs T N4 Dis_signs Dare_letters
  refine D.F.ok sc_is_stream (fun vs H Q E h => ?_) (fun cdv A outer s H vs Q E hr h => ?_)
  · obtain ⟨v, d, rfl, _⟩ := h
    rfl
  · obtain ⟨v, d, rfl, dz, ln, k⟩ := h
    have hu := hr.units
    refine ⟨_, (pss_one (ps_ret (pe_and (pe_callB (Z.k_is (K := K)) (by rfl) T.isinstance (by decide +kernel) (pa_cons (pv 0) (pa_cons (pe_bltn (v := .ty "tuple") (by rfl) T.tuple (by decide +kernel) rfl) pa_nil))) (pe_and (pe_cmpR (Z.k_eq (K := K) hu) (pe_callB (Z.k_len (K := K)) (by rfl) T.len (by decide +kernel) (pa_cons (pv 0) pa_nil)) pe_int (nomark _)) (pe_and (pe_call Gis_name (hr.mono (by decide)) (by rfl) Dis_name.g Dis_name.F.kp Dis_name.b .nil pass0 (pa_cons (pe_ix (Z.k_item (K := K)) (pv 0) pe_int (fun _ _ => rfl)) pa_nil)) (pe_one (pe_call Gis_signs (hr.mono (by decide)) (by rfl) Dis_signs.g Dis_signs.F.kp Dis_signs.b .nil pass0 (pa_cons (pe_ix (Z.k_item (K := K)) (pv 0) pe_int (fun _ _ => rfl)) pa_nil)))))))), ?_⟩
    walk_at "st"
    refine is_tup dz ?_ (fun no => ?_)
    · rintro ds a xs rfl rfl hx hd
      refine s_bl (P := _) ?_
      refine iteT ?_
      walk_at "st"
      refine len_tup hx hd ?_
      walk_at "st"
      by_cases two : ds.length = 2
      · rw [decide_eq_true (show ((ds.length : Nat) : Int) = 2 by omega)]
        refine iteT ?_
        obtain ⟨x, y, da, db, rfl, rfl, h1, h2⟩ := two_of hd two
        have e : strmD (.tuple [da, db]) = (nmD da && sgD db) := rfl
        rw [e] at k
        walk_at "st"
        refine itemT hx (by rfl) ?_
        walk_at "st"
        refine ⟨x, da, rfl, h1, Len.of (wt_tup ln (by simp)), fun H1 m => ?_⟩
        refine s_bl (P := _) ?_
        cases b : nmD da with
        | false =>
          refine iteF ?_
          rw [b] at k
          exact k H1 m
        | true =>
          refine iteT ?_
          rw [b, Bool.true_and] at k
          walk_at "st"
          refine itemT (same_sqt m hx) (by rfl) ?_
          walk_at "st"
          refine ⟨y, db, rfl, Dz.same m _ _ h2, Len.of (wt_tup ln (by simp)), fun H2 m2 => ?_⟩
          exact k H2 (m.trans m2)
      · rw [decide_eq_false (show ¬ ((ds.length : Nat) : Int) = 2 by omega)]
        refine iteF ?_
        rw [← strmD_len two]
        exact k H (Same.refl H)
    · refine s_bl (P := _) ?_
      refine iteF ?_
      rw [← strmD_no no]
      exact k H (Same.refl H)
end
end Z
local macro_rules | `(tactic| walk_at "st") => `(tactic| repeat (first
  | ((with_reducible refine' Z.s_var ?h ?_); (case h => exact rfl))
  | with_reducible refine Z.s_c ?_
  | with_reducible refine Z.s_op ?_
  | with_reducible refine Z.s_un ?_
  | with_reducible refine Z.s_nil ?_
  | with_reducible refine Z.s_cons ?_
  | with_reducible refine Z.s_cb ?_
  | with_reducible refine Z.s_call ?_
  | with_reducible refine Z.s_tup ?_
  | with_reducible refine Z.s_lst ?_
  | with_reducible refine Z.s_test ?_
  | with_reducible refine Z.s_B ?_
  | with_reducible refine Z.s_and ?_
  | with_reducible refine Z.s_or ?_
  | with_reducible refine Z.s_not ?_
  | with_reducible refine Z.s_andV ?_
  | with_reducible refine Z.s_orV ?_
  | with_reducible refine Z.s_notV ?_
  | with_reducible refine Z.s_if ?_
  | with_reducible refine Z.s_chain ?_
  | with_reducible refine Z.s_seq ?_
  | with_reducible refine Z.s_next ?_
  | with_reducible refine Z.s_drop ?_
  | with_reducible refine Z.s_ret ?_
  | with_reducible refine Z.s_ifS ?_
  | with_reducible refine Z.s_asg ?_
  | with_reducible refine Z.s_name ?_
  | with_reducible refine Z.s_par ?_
  | with_reducible refine Z.s_item ?_
  | with_reducible refine Z.s_part ?_
  | with_reducible refine Z.s_noPart ?_
  | with_reducible refine Z.s_cut ?_
  | with_reducible refine Z.s_bm0 ?_
  | with_reducible refine Z.s_bm ?_
  | with_reducible refine Z.s_bl (P := _) ?_
  | with_reducible refine Z.s_two (P := _) ?_
  | with_reducible refine Z.s_int (P := _) ?_
  | with_reducible refine Z.a_addI ?_
  | with_reducible refine Z.a_subI ?_
  | with_reducible refine Z.a_ltI ?_
  | with_reducible refine Z.a_leI ?_
  | with_reducible refine Z.a_gtI ?_
  | with_reducible refine Z.a_geI ?_
  | with_reducible refine Z.a_eqI ?_
  | with_reducible refine Z.a_neI ?_
  | with_reducible refine Z.a_eqS ?_
  | with_reducible refine Z.a_neS ?_
  | with_reducible refine Z.a_eqB ?_
  | with_reducible refine Z.a_neB ?_
  | with_reducible refine Z.a_isN ?_
  | with_reducible refine Z.a_notN ?_
  | with_reducible refine Z.a_setL ?_
  | with_reducible refine Z.a_int ?_
  | with_reducible refine Z.a_intB ?_
  | with_reducible refine Z.a_abs ?_
  | with_reducible refine Z.a_max ?_
  | with_reducible refine Z.a_min ?_
  | with_reducible refine Z.s_lc ?_
  | with_reducible refine Z.s_for ?_
  | with_reducible refine Z.s_iList ?_
  | with_reducible refine Z.s_iTup ?_
  | with_reducible refine Z.s_iStr ?_
  | with_reducible refine Z.s_rng1 ?_
  | with_reducible refine Z.s_rng2 ?_
  | with_reducible refine Z.s_gtup ?_
  | with_reducible refine Z.s_gcons ?_
  | with_reducible refine Z.s_gnil ?_
  | with_reducible refine Z.s_yes ?_
  | with_reducible refine Z.s_ref (P := _) ?_
  | with_reducible refine Z.s_str (P := _) ?_
  | with_reducible refine Z.s_one (P := _) ?_
  | with_reducible refine Z.s_m1 ?_
  | with_reducible refine Z.s_m0 ?_
  | with_reducible refine Z.s_isStr ?_))
namespace Z
open PySem PySem.Spec PyProof.Rows L2 G
section
variable {P : Program} {w : World} {K : PySem.W.Frag} {mg : Str → Option Value} {base : Heap}
abbrev s_are_kind : Stmt := topS 16
theorem sc_are_kind : FnScope ["value", "fewest", "pair"] ["value", "fewest"] (defScope s_are_kind) := ⟨rfl, rfl, rfl, by decide +kernel, rfl, by decide +kernel, by decide +kernel⟩
theorem ok_are_kind {f fst fn fs fl : Addr} {fd fdst fdn fds fdl : FuncData} (T : Txt2 mg) (N8 : Num mg "MAX_NAME" 8) (N4 : Num mg "MAX_SIGNS" 4) (N3 : Num mg "MAX_KIND" 3) (D : Def K mg "_are_kind" s_are_kind ["value", "fewest"] f fd) (D_is_stream : Def K mg "_is_stream" s_is_stream ["value"] fst fdst)
    (Dis_name : Def K mg "is_name" sis_name ["value"] fn fdn) (Dis_signs : Def K mg "is_signs" sis_signs ["value"] fs fds) (Dare_letters : Def K mg "are_letters" sare_letters ["text"] fl fdl) : FnOk P w K mg base CX0 4 f fd ["value", "fewest"] (spKind K) := by
  have G_is_stream : FnOk P w K mg base CX0 3 fst fdst ["value"] (spIs K strmD) := ok_is_stream T N8 N4 D_is_stream Dis_name Dis_signs Dare_letters
  refine D.F.ok sc_are_kind (fun vs H Q E h => ?_) (fun cdv A outer s H vs Q E hr h => ?_)
  · obtain ⟨v, d, n, rfl, _⟩ := h
    rfl
  · obtain ⟨v, d, n, rfl, dz, ln, k⟩ := h
    have hu := hr.units
    obtain ⟨t3, c_MAX_KIND⟩ := N3
    refine ⟨_, (pss_cons (ps_if (PW.pt (pw_or (pt_not (pt_val (pe_callB (Z.k_is (K := K)) (by rfl) T.isinstance (by decide +kernel) (pa_cons (pv 0) (pa_cons (pe_bltn (v := .ty "tuple") (by rfl) T.tuple (by decide +kernel) rfl) pa_nil))))) (pw_or1 (pt_not (pt_chain Z.op_le Z.op_le (pv 1) (pe_callB (Z.k_len (K := K)) (by rfl) T.len (by decide +kernel) (pa_cons (pv 0) pa_nil)) (pe_glob (v := .int 3) (by rfl) c_MAX_KIND ⟨_, rfl⟩))))))
  (pss_one (ps_ret pe_bl))
  pss_nil)
 (pss_one (ps_ret (pe_callB (Z.k_all (K := K) rfl) (by rfl) T.all (by decide +kernel) (pa_cons (pe_lc (own := [("pair", 2)]) (by rfl) sc_are_kind.nd (pi_tup (pv 0)) (blkOk_by (own := [("pair", 2)]) (N := ["value", "fewest", "pair"]) (sc := defScope s_are_kind) (by decide +kernel))
   (fun _ _ _ _ _ => (pg_name (i := 2) sc_are_kind.nd rfl (by first | exact Or.inl rfl | exact Or.inr rfl))) (fun _ _ _ _ _ => pts_nil) (fun _ _ _ _ _ => (pe_call G_is_stream (hr.mono (by decide)) (by rfl) D_is_stream.g D_is_stream.F.kp D_is_stream.b .nil pass0 (pa_cons (pv 2) pa_nil)))) pa_nil))))), ?_⟩
    walk_at "st"
    refine is_tup dz ?_ (fun no => ?_)
    · rintro ds a xs rfl rfl hx hd
      walk_at "st"
      refine iteF ?_
      walk_at "st"
      refine len_tup hx hd ?_
      walk_at "st"
      by_cases c1 : ((n : Nat) : Int) ≤ ((ds.length : Nat) : Int)
      · rw [decide_eq_true c1]
        refine iteT ?_
        walk_at "st"
        by_cases c2 : ((ds.length : Nat) : Int) ≤ 3
        · rw [decide_eq_true c2]
          refine iteF ?_
          walk_at "st"
          have e : kindD n (.tuple ds) = ds.all strmD := by
            show (_ && _ && _) = _
            rw [decide_eq_true (show n ≤ ds.length by omega), decide_eq_true (show ds.length ≤ 3 by omega)]
            rfl
          rw [e] at k
          have many := hd.len
          refine ⟨⟨_, hx⟩, comp (walkT (xs := xs)) (Same H) (fun i acc H2 => acc = (ds.take i).map fun d => V.bl (strmD d)) (Same.refl H) (fun L o H2 e m => same_upd m e) (fun _ _ _ _ _ _ _ h => h) rfl (fun i acc H2 m _ => same_sqt m hx) ?_ ?_⟩
          · rintro L i acc x H2 fresh hi hxi len m at_ rfl
            obtain ⟨d, hdi, dz2⟩ := hd.get hxi
            refine turn1 rfl ?_
            walk_at "st"
            refine ⟨x, d, rfl, Dz.same m _ _ dz2, wt_tup ln (List.mem_of_getElem? hdi), fun H3 m3 => ?_⟩
            refine put fresh (fun L o H2 e m => same_upd m e) (fun _ _ _ _ _ _ _ h => h) (m3 _ _ at_) (by omega) len (m.trans m3) ?_
            rw [List.take_add_one, hdi, List.map_append]
            rfl
          · rintro L acc H2 fresh len m at_ rfl
            rw [many, List.take_length] at at_
            walk_at "st"
            refine ⟨ds.map strmD, SqL.of ?_, ?_⟩
            · rw [List.map_map]
              exact at_
            · rw [List.all_map]
              exact k H2 m
        · rw [decide_eq_false c2]
          refine iteT ?_
          walk_at "st"
          have e : kindD n (.tuple ds) = false := by
            show (_ && _ && _) = _
            rw [decide_eq_false (show ¬ ds.length ≤ 3 by omega), Bool.and_false]
            rfl
          rw [← e]
          exact k H (Same.refl H)
      · rw [decide_eq_false c1]
        refine iteF ?_
        walk_at "st"
        refine iteT ?_
        walk_at "st"
        have e : kindD n (.tuple ds) = false := by
          show (_ && _ && _) = _
          rw [decide_eq_false (show ¬ n ≤ ds.length by omega)]
          rfl
        rw [← e]
        exact k H (Same.refl H)
    · walk_at "st"
      refine iteT (iteT ?_)
      walk_at "st"
      rw [← kindD_no no]
      exact k H (Same.refl H)
/-- a tuple put behind another -/
theorem cat_tup {H : Hp} {Q : VK} {a b : Addr} {xs ys : List V} (ha : SqT K H a xs) (hb : SqT K H b ys) (few : xs.length + ys.length ≤ 1000) (q : ∀ p H1, Same H H1 → SqT K H1 p (xs ++ ys) → Q (.ref p) H1) : Z.rAdd K (.ref a) (.ref b) H Q := by
  refine .inr ⟨a, b, xs, ys, rfl, rfl, ha, hb, by rw [sizeLine_eq]; omega, ?_, ?_, ?_⟩
  · rintro rfl
    exact q b H (Same.refl H) hb
  · rintro _ rfl
    refine q a H (Same.refl H) ?_
    rw [List.append_nil]
    exact ha
  · intro _ _ p np
    exact q p _ (same_new (Same.refl H) np) (SqT.of upd_same)
theorem nmD_str {d : PyData} (h : nmD d = true) : ∃ z, d = .str z ∧ nameB z = true := by
  cases d with
  | str z => exact ⟨z, rfl, h⟩
  | _ => exact Bool.noConfusion h
theorem sgD_str {d : PyData} (h : sgD d = true) : ∃ z, d = .str z ∧ signsB z = true := by
  cases d with
  | str z => exact ⟨z, rfl, h⟩
  | _ => exact Bool.noConfusion h
theorem strmD_two {d : PyData} (h : strmD d = true) : ∃ z y, d = .tuple [.str z, .str y] ∧ nameB z = true ∧ signsB y = true := by
  by_cases c : ∃ ds, d = .tuple ds
  · obtain ⟨ds, rfl⟩ := c
    by_cases two : ds.length = 2
    · match ds, two with
      | [a, b], _ =>
        have h2 : (nmD a && sgD b) = true := h
        rw [Bool.and_eq_true] at h2
        obtain ⟨z, rfl, hz⟩ := nmD_str h2.1
        obtain ⟨y, rfl, hy⟩ := sgD_str h2.2
        exact ⟨z, y, rfl, hz, hy⟩
    · rw [strmD_len two] at h
      exact Bool.noConfusion h
  · rw [strmD_no fun ds e => c ⟨ds, e⟩] at h
    exact Bool.noConfusion h
/-- a well formed pair -/
theorem pair_of {H : Hp} {v : V} {d : PyData} (h : Dz K H v d) (g : strmD d = true) : ∃ a z y, v = .ref a ∧ SqT K H a [.str z, .str y] ∧ d = .tuple [.str z, .str y] ∧ nameB z = true ∧ signsB y = true := by
  obtain ⟨z, y, rfl, hz, hy⟩ := strmD_two g
  cases h with
  | tup a b =>
    cases b with
    | cons b1 b =>
      cases b with
      | cons b2 b =>
        cases b
        cases b1
        cases b2
        exact ⟨_, z, y, rfl, a, rfl, hz, hy⟩
/-- a kind that is well formed -/
theorem kind_of {n : Nat} {d : PyData} (h : kindD n d = true) : ∃ ds, d = .tuple ds ∧ n ≤ ds.length ∧ ds.length ≤ 3 ∧ ∀ e ∈ ds, strmD e = true := by
  by_cases c : ∃ ds, d = .tuple ds
  · obtain ⟨ds, rfl⟩ := c
    have h2 : (decide (n ≤ ds.length) && decide (ds.length ≤ 3) && ds.all strmD) = true := h
    simp only [Bool.and_eq_true, decide_eq_true_eq, List.all_eq_true] at h2
    exact ⟨ds, rfl, h2.1.1, h2.1.2, h2.2⟩
  · rw [kindD_no fun ds e => c ⟨ds, e⟩] at h
    exact Bool.noConfusion h
end
end Z
local macro_rules | `(tactic| walk_at "st") => `(tactic| repeat (first
  | ((with_reducible refine' Z.s_var ?h ?_); (case h => exact rfl))
  | with_reducible refine Z.s_c ?_
  | with_reducible refine Z.s_op ?_
  | with_reducible refine Z.s_un ?_
  | with_reducible refine Z.s_nil ?_
  | with_reducible refine Z.s_cons ?_
  | with_reducible refine Z.s_cb ?_
  | with_reducible refine Z.s_call ?_
  | with_reducible refine Z.s_tup ?_
  | with_reducible refine Z.s_lst ?_
  | with_reducible refine Z.s_test ?_
  | with_reducible refine Z.s_B ?_
  | with_reducible refine Z.s_and ?_
  | with_reducible refine Z.s_or ?_
  | with_reducible refine Z.s_not ?_
  | with_reducible refine Z.s_andV ?_
  | with_reducible refine Z.s_orV ?_
  | with_reducible refine Z.s_notV ?_
  | with_reducible refine Z.s_if ?_
  | with_reducible refine Z.s_chain ?_
  | with_reducible refine Z.s_seq ?_
  | with_reducible refine Z.s_next ?_
  | with_reducible refine Z.s_drop ?_
  | with_reducible refine Z.s_ret ?_
  | with_reducible refine Z.s_ifS ?_
  | with_reducible refine Z.s_asg ?_
  | with_reducible refine Z.s_name ?_
  | with_reducible refine Z.s_par ?_
  | with_reducible refine Z.s_item ?_
  | with_reducible refine Z.s_part ?_
  | with_reducible refine Z.s_noPart ?_
  | with_reducible refine Z.s_cut ?_
  | with_reducible refine Z.s_bm0 ?_
  | with_reducible refine Z.s_bm ?_
  | with_reducible refine Z.s_bl (P := _) ?_
  | with_reducible refine Z.s_two (P := _) ?_
  | with_reducible refine Z.s_int (P := _) ?_
  | with_reducible refine Z.a_addI ?_
  | with_reducible refine Z.a_subI ?_
  | with_reducible refine Z.a_ltI ?_
  | with_reducible refine Z.a_leI ?_
  | with_reducible refine Z.a_gtI ?_
  | with_reducible refine Z.a_geI ?_
  | with_reducible refine Z.a_eqI ?_
  | with_reducible refine Z.a_neI ?_
  | with_reducible refine Z.a_eqS ?_
  | with_reducible refine Z.a_neS ?_
  | with_reducible refine Z.a_eqB ?_
  | with_reducible refine Z.a_neB ?_
  | with_reducible refine Z.a_isN ?_
  | with_reducible refine Z.a_notN ?_
  | with_reducible refine Z.a_setL ?_
  | with_reducible refine Z.a_int ?_
  | with_reducible refine Z.a_intB ?_
  | with_reducible refine Z.a_abs ?_
  | with_reducible refine Z.a_max ?_
  | with_reducible refine Z.a_min ?_
  | with_reducible refine Z.s_lc ?_
  | with_reducible refine Z.s_for ?_
  | with_reducible refine Z.s_iList ?_
  | with_reducible refine Z.s_iTup ?_
  | with_reducible refine Z.s_iStr ?_
  | with_reducible refine Z.s_rng1 ?_
  | with_reducible refine Z.s_rng2 ?_
  | with_reducible refine Z.s_gtup ?_
  | with_reducible refine Z.s_gcons ?_
  | with_reducible refine Z.s_gnil ?_
  | with_reducible refine Z.s_yes ?_
  | with_reducible refine Z.s_ref (P := _) ?_
  | with_reducible refine Z.s_str (P := _) ?_
  | with_reducible refine Z.s_one (P := _) ?_
  | with_reducible refine Z.s_m1 ?_
  | with_reducible refine Z.s_m0 ?_
  | with_reducible refine Z.s_isStr ?_))
namespace Z
open PySem PySem.Spec PyProof.Rows L2 G
section
variable {P : Program} {w : World} {K : PySem.W.Frag} {mg : Str → Option Value} {base : Heap}
/-- [pair[0] for pair in pairs] of well formed pairs -/
theorem comp_names {σ : L2.St} {vs : List Nat} {j : Nat} {p : Addr} {xs : List V} {ds : List PyData} {H : Hp} {Q : VK} (hx : SqT K H p xs) (hd : DzAll K H xs ds) (good : ∀ d ∈ ds, strmD d = true) (few : ds.length ≤ 1000)
    (hw : ∀ x, wipe ((wipe σ vs).set j (some x)) vs = wipe σ vs) (hj : ∀ x, ((wipe σ vs).set j (some x))[j]? = some (some x)) (done : ∀ L H2, H L = none → Same H H2 → H2 L = some (.lst (oneOf (ds.map nm1))) → Q (.ref L) H2) :
    CompOk (Itt K p) (gName j) tYes (tOp (Z.rItem K) (tVar j) (tC (.int 0))) vs σ H Q := by
  have many := hd.len
  refine comp (walkT (xs := xs)) (Same H) (fun i acc H2 => acc = oneOf ((ds.take i).map nm1)) (Same.refl H) (fun L o H2 e m => same_upd m e) (fun _ _ _ _ _ _ _ h => h) rfl (fun i acc H2 m _ => same_sqt m hx) ?_ ?_
  · rintro L i acc x H2 fresh hi hxi len m at_ rfl
    obtain ⟨d, hdi, dz⟩ := hd.get hxi
    obtain ⟨a, z, y, rfl, ha, rfl, _, _⟩ := pair_of dz (good d (List.mem_of_getElem? hdi))
    refine turn1 (hw _) ?_
    refine s_op (s_var (hj _) (s_c ?_))
    refine itemT (same_sqt m ha) (by rfl) ?_
    refine put fresh (fun L o H2 e m => same_upd m e) (fun _ _ _ _ _ _ _ h => h) at_ (by omega) len m ?_
    unfold oneOf
    rw [List.take_add_one, hdi, List.map_append, List.map_append]
    rfl
  · rintro L acc H2 fresh len m at_ rfl
    rw [many, List.take_length] at at_
    exact done L H2 fresh m at_
theorem strsD_no1 {d e : PyData} (h : kindD 1 d = false) : strsD d e = false := by
  unfold strsD
  rw [h]
  rfl
theorem strsD_no2 {d e : PyData} (h : kindD 0 e = false) : strsD d e = false := by
  unfold strsD
  rw [h, Bool.and_false]
  rfl
theorem strsD_yes {ds es : List PyData} (h : kindD 1 (.tuple ds) = true) (g : kindD 0 (.tuple es) = true) : strsD (.tuple ds) (.tuple es) = decide ((ds ++ es).map nm1).Nodup := by
  unfold strsD nmsD
  rw [h, g, ← List.map_append]
  rfl
/-- the names' list: are all different? -/
theorem lens_eq {σ : L2.St} {H : Hp} {Q : VK} {j : Nat} {L : Addr} {zs : List Str} (hj : σ[j]? = some (some (.ref L))) (hL : H L = some (.lst (oneOf zs))) (few : zs.length < 1000) (q : Q (.bl (decide zs.Nodup)) H) : tOp (Z.rEq K) (tLenSetS K (tVar j)) (tCB (Z.rLen K) (tCons (tVar j) tNil)) σ H Q := by
  refine s_op (s_lenSet (s_var hj ⟨L, zs, rfl, SqL.of hL, few, ?_⟩))
  refine s_cb (s_cons (s_var hj (s_nil ?_)))
  refine .inl ⟨oneOf zs, .inl (SqL.of hL), ?_⟩
  refine a_eqI ?_
  rw [List.length_map, ded_full]
  exact q
abbrev s_are_streams : Stmt := topS 17
theorem sc_are_streams : FnScope ["sources", "sinks", "names", "pair"] ["sources", "sinks"] (defScope s_are_streams) := ⟨rfl, rfl, rfl, by decide +kernel, rfl, by decide +kernel, by decide +kernel⟩
theorem ok_are_streams {f fk fst fn fs fl : Addr} {fd fdk fdst fdn fds fdl : FuncData} (T : Txt2 mg) (N8 : Num mg "MAX_NAME" 8) (N4 : Num mg "MAX_SIGNS" 4) (N3 : Num mg "MAX_KIND" 3) (D : Def K mg "_are_streams" s_are_streams ["sources", "sinks"] f fd) (D_are_kind : Def K mg "_are_kind" s_are_kind ["value", "fewest"] fk fdk) (D_is_stream : Def K mg "_is_stream" s_is_stream ["value"] fst fdst)
    (Dis_name : Def K mg "is_name" sis_name ["value"] fn fdn) (Dis_signs : Def K mg "is_signs" sis_signs ["value"] fs fds) (Dare_letters : Def K mg "are_letters" sare_letters ["text"] fl fdl) : FnOk P w K mg base CX0 5 f fd ["sources", "sinks"] (spBoth K) := by
  have G_are_kind : FnOk P w K mg base CX0 4 fk fdk ["value", "fewest"] (spKind K) := ok_are_kind T N8 N4 N3 D_are_kind D_is_stream Dis_name Dis_signs Dare_letters
  refine D.F.ok sc_are_streams (fun vs H Q E h => ?_) (fun cdv A outer s H vs Q E hr h => ?_)
  · obtain ⟨v, u, d, e, rfl, _⟩ := h
    rfl
  · obtain ⟨v, u, d, e, rfl, dz, dy, ld, le, k⟩ := h
    have hu := hr.units
    refine ⟨_, (pss_cons (ps_if (PW.pt (pw_or (pt_not (pt_val (pe_call G_are_kind (hr.mono (by decide)) (by rfl) D_are_kind.g D_are_kind.F.kp D_are_kind.b .nil pass0 (pa_cons (pv 0) (pa_cons pe_int pa_nil))))) (pw_or1 (pt_not (pt_val (pe_call G_are_kind (hr.mono (by decide)) (by rfl) D_are_kind.g D_are_kind.F.kp D_are_kind.b .nil pass0 (pa_cons (pv 1) (pa_cons pe_int pa_nil))))))))
  (pss_one (ps_ret pe_bl))
  pss_nil)
 (pss_cons (ps_setLc (i := 2) (own := [("pair", 3)]) (by rfl) sc_are_streams.nd rfl rfl (sw_true rfl rfl rfl (by decide +kernel)) (pi_tup (pe_op (Z.k_add (K := K)) (pv 0) (pv 1))) (blkOk_by (own := [("pair", 3)]) (N := ["sources", "sinks", "names", "pair"]) (sc := defScope s_are_streams) (by decide +kernel))
   (fun _ _ _ _ _ => (pg_name (i := 3) sc_are_streams.nd rfl (by first | exact Or.inl rfl | exact Or.inr rfl))) (fun _ _ _ _ _ => pts_nil) (fun _ _ _ _ _ => (pe_ix (Z.k_item (K := K)) (pv 3) pe_int (fun _ _ => rfl))))
 (pss_one (ps_ret (pe_cmpR (Z.k_eq (K := K) hu) (Z.k_lenSet (K := K) rfl (by rfl) T.len (by rfl) T.set (pv 2)) (pe_callB (Z.k_len (K := K)) (by rfl) T.len (by decide +kernel) (pa_cons (pv 2) pa_nil)) (nomark _)))))), ?_⟩
    walk_at "st"
    refine ⟨v, d, 1, rfl, dz, ld, fun H1 m => ?_⟩
    refine s_bl (P := _) ?_
    cases b1 : kindD 1 d with
    | false =>
      refine iteT (iteT ?_)
      walk_at "st"
      rw [← strsD_no1 b1]
      exact k H1 m
    | true =>
      refine iteF ?_
      walk_at "st"
      refine ⟨u, e, 0, rfl, Dz.same m _ _ dy, le, fun H2 m2 => ?_⟩
      have m02 := m.trans m2
      refine s_bl (P := _) ?_
      cases b2 : kindD 0 e with
      | false =>
        refine iteT ?_
        walk_at "st"
        rw [← strsD_no2 b2]
        exact k H2 m02
      | true =>
        refine iteF ?_
        obtain ⟨ds, rfl, d1, d3, dg⟩ := kind_of b1
        obtain ⟨es, rfl, _, e3, eg⟩ := kind_of b2
        rw [strsD_yes b1 b2] at k
        cases dz with
        | tup ha had =>
          cases dy with
          | tup hb hbd =>
            have l1 := had.len
            have l2 := hbd.len
            walk_at "st"
            refine cat_tup (same_sqt m02 ha) (same_sqt m02 hb) (by omega) fun p H3 m3 hp => ?_
            have m03 := m02.trans m3
            walk_at "st"
            refine ⟨⟨_, hp⟩, comp_names (ds := ds ++ es) hp ((DzAll.same m03 _ _ had).app (DzAll.same m03 _ _ hbd)) ?_ (by rw [List.length_append]; omega) (fun _ => rfl) (fun _ => rfl) ?_⟩
            · intro d hd
              rcases List.mem_append.mp hd with hd | hd
              · exact dg d hd
              · exact eg d hd
            · intro L H4 fresh m4 hL
              walk_at "st"
              refine lens_eq rfl hL (by rw [List.length_map, List.length_append]; omega) ?_
              exact k H4 (m03.trans m4)
end
end Z
/-! Tuples known to the object: their own methods. -/
namespace Z
open PySem PySem.Spec PyProof.Rows L2 G
section
variable {X : Cx}
/-- a tuple's object without a dict -/
def PlainT (o : Obj) : Prop := o.cls = .type "tuple" ∧ o.dict = none
/-- tuple(xs) of a list, known to the object -/
def rTupleX (K : PySem.W.Frag) : List V → Hp → VK → Prop := fun vs H Q => ∃ p ys, vs = [.ref p] ∧ SqL K H p ys ∧ ∀ l o, H l = none → PlainT o → Q (.ref l) (upd H l (.frz o (.tup ys)))
theorem k_tupleX {K : PySem.W.Frag} (h : X.K = K := by rfl) : CallR X (.type "tuple") (rTupleX K) := by
  subst h
  intro pins s σ H xs us Q I r q
  obtain ⟨p, ys, rfl, hq, q⟩ := q
  have eu : us = [.ref p] := by
    cases r with
    | cons x y =>
      cases y
      cases x
      rfl
  subst eu
  obtain ⟨its, rel, pl, len⟩ := I.list hq
  have same := rel.length
  refine call_tuple_list pl.isList (fun h1 keep => ?_) (by simp only [List.size_toArray] <;> omega)
  have I1 : Inv X pins σ H { s with heap := h1 } := I.kept (t' := s.toks) keep
  have fresh := I1.hok.fresh (Nat.le_refl h1.objs.size)
  have at_ : (h1.push { cls := .type "tuple", data := .seq its.toArray }).get? h1.objs.size = some { cls := .type "tuple", data := .seq its.toArray } := Heap.get?_push_size _ rfl
  have ok : ObjOk X.prog X.w (upd H h1.objs.size (.frz { cls := .type "tuple", data := .seq its.toArray } (.tup ys))) (h1.push { cls := .type "tuple", data := .seq its.toArray }) h1.objs.size (.frz { cls := .type "tuple", data := .seq its.toArray } (.tup ys)) :=
    ⟨at_, len, its, rel, IsTup.new _ _⟩
  have I2 := I1.laid (t' := s.toks) (fun b o e => Heap.get?_push_of_some _ e) (Nat.le_refl _) ok
  exact ⟨.ref h1.objs.size, _, I2, rfl, q _ _ fresh ⟨rfl, rfl⟩⟩
/-- t.m(..), t a tuple known to the object -/
def tBMT (r : V → List V → Hp → VK → Prop) (to : TE) (t : TA) : TE := fun σ H Q => to σ H fun x H1 => (∃ p o u, x = .ref p ∧ H1 p = some (.frz o u) ∧ PlainT o) ∧ t σ H1 fun xs H2 => r x xs H2 Q
theorem s_bmt {r : V → List V → Hp → VK → Prop} {to : TE} {t : TA} {σ : L2.St} {H : Hp} {Q : VK} (q : to σ H fun x H1 => (∃ p o u, x = .ref p ∧ H1 p = some (.frz o u) ∧ PlainT o) ∧ t σ H1 fun xs H2 => r x xs H2 Q) : tBMT r to t σ H Q := q
theorem k_bmt {o e : Expr} {es : List Expr} {to : TE} {t : TA} {name : Str} {apos cpos : Pos} {id : String} {r : V → List V → Hp → VK → Prop} (pa : PlainAttrs "tuple") (slot : Slot "tuple" name id) (ty : typeOf (.builtin id) = pure (.type "method_descriptor")) (hm : MtR X id r) (ho : PE X o to) (ha : PA X (e :: es) t)
    (hb : attributeBase o name X.env (eval o X.env) = eval o X.env := by rfl)
    (few : ((backTo cpos (starEach (e :: es) X.env)).all (fun x => !x.1) && (backToKw cpos (keywordEach [] X.env)).all (fun x => x.1.isSome) && decide ((e :: es).length + ([] : List Keyword).length + (if ([] : List Keyword).isEmpty then 0 else 1) < 30)) = true := by rfl)
    (hl : (apos.endLine == cpos.line) = true := by rfl) (hs : starEach (e :: es) X.env = (false, eval e X.env) :: starEach es X.env := by rfl) (hp : (backTo cpos (starEach es X.env)).any (·.1) = false := by rfl) :
    PE X (.Call (.Attribute o name apos) (e :: es) [] cpos) (tBMT r to t) := by
  refine ⟨?_⟩
  intro pins s σ H Q I h
  refine wpAny_Call_method_late hb few hl rfl (thn (ho.run pins s σ H _ I h) ?_)
  rintro v s1 ⟨x, H1, I1, r1, ⟨p, ob, u, rfl, hob, hc, hd⟩, q1⟩
  cases r1
  obtain ⟨at_, _⟩ := I1.hok p _ hob
  refine ⟨"tuple", id, pa, slot, ty, ⟨ob, at_, hc⟩, fun a e1 => ?_, ?_⟩
  · cases e1
    exact ⟨ob, at_, hd⟩
  have hA := ha.run cpos pins s1 σ H1 _ I1 q1
  rw [hs] at hA ⊢
  refine Calls.callWith_builtin (by show (false || (backTo cpos (starEach es X.env)).any (·.1)) = false; rw [hp] <;> rfl) (Calls.evalArgs_plain ?_)
  exact thn hA fun us s2 ⟨vs, H2, I2, r2, q2⟩ => hm pins s2 σ H2 (.ref p) vs (.ref p) us Q I2 rfl r2 q2
/-- t.index(z) of names -/
def rIndexT (K : PySem.W.Frag) : V → List V → Hp → VK → Prop := fun x xs H Q => ∃ p, ∃ ys : List Str, ∃ z j, x = .ref p ∧ xs = [.str z] ∧ SqT K H p (ys.map V.str) ∧ ys[j]? = some z ∧ (∀ m, m < j → ys[m]? ≠ some z) ∧ Q (.int (j : Nat)) H
theorem k_indexT {K : PySem.W.Frag} (h : X.K = K := by rfl) : MtR X "tuple.index" (rIndexT K) := by
  subst h
  exact mt_tup_index
end
end Z
local macro_rules | `(tactic| walk_at "st") => `(tactic| repeat (first
  | ((with_reducible refine' Z.s_var ?h ?_); (case h => exact rfl))
  | with_reducible refine Z.s_c ?_
  | with_reducible refine Z.s_op ?_
  | with_reducible refine Z.s_un ?_
  | with_reducible refine Z.s_nil ?_
  | with_reducible refine Z.s_cons ?_
  | with_reducible refine Z.s_cb ?_
  | with_reducible refine Z.s_call ?_
  | with_reducible refine Z.s_tup ?_
  | with_reducible refine Z.s_lst ?_
  | with_reducible refine Z.s_test ?_
  | with_reducible refine Z.s_B ?_
  | with_reducible refine Z.s_and ?_
  | with_reducible refine Z.s_or ?_
  | with_reducible refine Z.s_not ?_
  | with_reducible refine Z.s_andV ?_
  | with_reducible refine Z.s_orV ?_
  | with_reducible refine Z.s_notV ?_
  | with_reducible refine Z.s_if ?_
  | with_reducible refine Z.s_chain ?_
  | with_reducible refine Z.s_seq ?_
  | with_reducible refine Z.s_next ?_
  | with_reducible refine Z.s_drop ?_
  | with_reducible refine Z.s_ret ?_
  | with_reducible refine Z.s_ifS ?_
  | with_reducible refine Z.s_asg ?_
  | with_reducible refine Z.s_name ?_
  | with_reducible refine Z.s_par ?_
  | with_reducible refine Z.s_item ?_
  | with_reducible refine Z.s_part ?_
  | with_reducible refine Z.s_noPart ?_
  | with_reducible refine Z.s_cut ?_
  | with_reducible refine Z.s_bm0 ?_
  | with_reducible refine Z.s_bm ?_
  | with_reducible refine Z.s_bl (P := _) ?_
  | with_reducible refine Z.s_two (P := _) ?_
  | with_reducible refine Z.s_int (P := _) ?_
  | with_reducible refine Z.a_addI ?_
  | with_reducible refine Z.a_subI ?_
  | with_reducible refine Z.a_ltI ?_
  | with_reducible refine Z.a_leI ?_
  | with_reducible refine Z.a_gtI ?_
  | with_reducible refine Z.a_geI ?_
  | with_reducible refine Z.a_eqI ?_
  | with_reducible refine Z.a_neI ?_
  | with_reducible refine Z.a_eqS ?_
  | with_reducible refine Z.a_neS ?_
  | with_reducible refine Z.a_eqB ?_
  | with_reducible refine Z.a_neB ?_
  | with_reducible refine Z.a_isN ?_
  | with_reducible refine Z.a_notN ?_
  | with_reducible refine Z.a_setL ?_
  | with_reducible refine Z.a_int ?_
  | with_reducible refine Z.a_intB ?_
  | with_reducible refine Z.a_abs ?_
  | with_reducible refine Z.a_max ?_
  | with_reducible refine Z.a_min ?_
  | with_reducible refine Z.s_lc ?_
  | with_reducible refine Z.s_for ?_
  | with_reducible refine Z.s_iList ?_
  | with_reducible refine Z.s_iTup ?_
  | with_reducible refine Z.s_iStr ?_
  | with_reducible refine Z.s_rng1 ?_
  | with_reducible refine Z.s_rng2 ?_
  | with_reducible refine Z.s_gtup ?_
  | with_reducible refine Z.s_gcons ?_
  | with_reducible refine Z.s_gnil ?_
  | with_reducible refine Z.s_yes ?_
  | with_reducible refine Z.s_ref (P := _) ?_
  | with_reducible refine Z.s_str (P := _) ?_
  | with_reducible refine Z.s_one (P := _) ?_
  | with_reducible refine Z.s_m1 ?_
  | with_reducible refine Z.s_m0 ?_
  | with_reducible refine Z.s_isStr ?_))
namespace Z
open PySem PySem.Spec PyProof.Rows L2 G
section
variable {P : Program} {w : World} {K : PySem.W.Frag} {mg : Str → Option Value} {base : Heap}
/-- an own class of errors over ValueError, without __init__ -/
structure Err (K : PySem.W.Frag) (mg : Str → Option Value) (n : Str) (C : Addr) : Prop where
  g : mg n = some (.ref C)
  x : PySem.W.excIn K C [.type "ValueError", .type "Exception", .type "BaseException", .type "object"] "ValueError.__new__" = true
  k : PySem.W.keepIn K (.ref C) = true
  b : PySem.W.subIn K (.ref C) (.type "BaseException") = some true
  t : PySem.W.typeIn K (.ref C) = some (.type "type")
  e : PySem.W.exmOne K (.ref C) (.ref C) = some true
/-- the class of streams -/
structure StrmC (K : PySem.W.Frag) (C : Addr) : Prop where
  cl : Cls K C
  n1 : NoAttr K C "_sources"
  n2 : NoAttr K C "_sinks"
  n3 : NoAttr K C "_names"
  n4 : NoAttr K C "_signs"
/-- what streams hold -/
def sF (v u n m : V) : List (Str × V) := [("_sources", v), ("_sinks", u), ("_names", n), ("_signs", m)]
theorem s_sfld {σ : L2.St} {H : Hp} {D : Ends} {ta tv : TE} {f : Str} (q : tv σ H fun y H1 => ta σ H1 fun x H2 => ∃ a C dx fs, x = .ref a ∧ H2 a = some (.ins C dx fs) ∧ Cls K C ∧ NoAttr K C f ∧ fs.length < 1000 ∧ D.nx σ (upd H2 a (.ins C dx (putF f y fs)))) : sFld K ta tv f D σ H := q
/-- a dict comprehension over what J walks, from here on -/
def DcOk (J : It) (g : TG) (tt : TT) (tk tv : TE) (vs : List Nat) (σ : L2.St) (H1 : Hp) (Q : VK) : Prop := ∀ D, H1 D = none → ∃ W : Nat → Nat → Hp → Prop, (∃ m, W 0 m (upd H1 D (.dK []))) ∧ ∀ i m H, W i m H →
  (J.stop i H ∧ Q (.ref D) H) ∨ (J.go i H ∧ ∃ Nx : Hp → Prop, (∀ H', Nx H' → ∃ m', m' < m ∧ W (i + 1) m' H') ∧ ∀ x H', J.yld i H x H' → g x (wipe σ vs) H' fun σ2 H2 => wipe σ2 vs = wipe σ vs ∧ tt σ2 H2 fun b H3 =>
    if b = true then tk σ2 H3 fun y H4 => tv σ2 H4 fun z H5 => ∃ kvs k, y = kV k ∧ H5 D = some (.dK kvs) ∧ kvs.length < sizeLine ∧ Nx (upd H5 D (.dK (putK kvs k z))) else Nx H3)
theorem s_dc {wi : TI} {g : TG} {tt : TT} {tk tv : TE} {vs : List Nat} {σ : L2.St} {H : Hp} {Q : VK} (q : wi σ H fun J H1 => DcOk J g tt tk tv vs σ H1 Q) : tDc wi g tt tk tv vs σ H Q := q
theorem putK_len (kvs : List (Key × V)) (k : Key) (v : V) : (putK kvs k v).length ≤ kvs.length + 1 := by
  unfold putK
  split
  · rw [List.length_map]
    exact Nat.le_succ _
  · rw [List.length_append]
    exact Nat.le_refl _
theorem put_past {f g : Str} {v x : V} {r : List (Str × V)} (h : ¬ g = f) : putF f v ((g, x) :: r) = (g, x) :: putF f v r := if_neg h
abbrev sF1 (v : V) : List (Str × V) := [("_sources", v)]
abbrev sF2 (v u : V) : List (Str × V) := [("_sources", v), ("_sinks", u)]
abbrev sF3 (v u n : V) : List (Str × V) := [("_sources", v), ("_sinks", u), ("_names", n)]
theorem putF2 (v u : V) : putF "_sinks" u (sF1 v) = sF2 v u := (put_past (by decide +kernel)).trans rfl
theorem putF3 (v u n : V) : putF "_names" n (sF2 v u) = sF3 v u n := (put_past (by decide +kernel)).trans (congrArg _ ((put_past (by decide +kernel)).trans rfl))
theorem putF4 (v u n m : V) : putF "_signs" m (sF3 v u n) = sF v u n m := (put_past (by decide +kernel)).trans (congrArg _ ((put_past (by decide +kernel)).trans (congrArg _ ((put_past (by decide +kernel)).trans rfl))))
/-- all but p stands -/
abbrev Kp (p : Addr) (H H1 : Hp) : Prop := Same (hid p H) (hid p H1)
theorem Kp.of {p : Addr} {H H1 : Hp} (s : Same H H1) : Kp p H H1 := same_hidden s
theorem Kp.set {p : Addr} {H H1 : Hp} {o : HO} (s : Kp p H H1) : Kp p H (upd H1 p o) := by
  unfold Kp
  rw [hid_upd]
  exact s
theorem Kp.at {p b : Addr} {H H1 : Hp} {o : HO} (s : Kp p H H1) (e : H b = some o) (ne : b ≠ p) : H1 b = some o := (hid_some (s b o (by rw [hid_ne ne]; exact e))).2
theorem Dz.kp {p : Addr} {H H1 : Hp} {v : V} {d : PyData} (h : Dz K (hid p H) v d) (s : Kp p H H1) : Dz K (hid p H1) v d := Dz.same s d v h
/-- a pair's name and signs, as a dict has them -/
def kv1 : PyData → Key × V
  | .tuple (.str z :: .str y :: _) => (.inr z, .str y)
  | _ => (.inl 0, .non)
theorem putK_new {kvs : List (Key × V)} {k : Key} {v : V} (h : ∀ p ∈ kvs, p.1 ≠ k) : putK kvs k v = kvs ++ [(k, v)] := by
  unfold putK
  rw [if_neg]
  rw [List.any_eq_true]
  rintro ⟨p, hp, e⟩
  exact h p hp (of_decide_eq_true e)
theorem kv1_key {d : PyData} (h : strmD d = true) : (kv1 d).1 = .inr (nm1 d) := by
  obtain ⟨z, y, rfl, _, _⟩ := strmD_two h
  rfl
/-- {name: signs for name, signs in pairs} of well formed pairs with different names -/
theorem dc_names {σ : L2.St} {vs : List Nat} {i j : Nat} {p : Addr} {xs : List V} {ds : List PyData} {H : Hp} {Q : VK} (hx : SqT K H p xs) (hd : DzAll K H xs ds) (good : ∀ d ∈ ds, strmD d = true) (nd : (ds.map nm1).Nodup) (few : ds.length ≤ 1000)
    (hw : ∀ x y, wipe (((wipe σ vs).set i (some x)).set j (some y)) vs = wipe σ vs) (hi : ∀ x y, (((wipe σ vs).set i (some x)).set j (some y))[i]? = some (some x)) (hj : ∀ x y, (((wipe σ vs).set i (some x)).set j (some y))[j]? = some (some y))
    (done : ∀ L H2, H L = none → Same H H2 → H2 L = some (.dK (ds.map kv1)) → Q (.ref L) H2) :
    DcOk (Itt K p) (gTup K 2 (gCons (gName i) (gCons (gName j) gNil))) tYes (tVar i) (tVar j) vs σ H Q := by
  intro D fresh
  refine dc_tup (fun n H1 => Same H H1 ∧ H1 D = some (.dK ((ds.take n).map kv1))) ⟨same_new (Same.refl H) fresh, upd_same⟩ (fun n H1 _ h => same_sqt h.1 hx) ?_ ?_
  · rintro n x H1 hn ⟨m, at_⟩
    have lt : n < ds.length := by
      rw [← hd.len]
      exact (List.getElem?_eq_some_iff.mp hn).1
    obtain ⟨d, hdi, dz⟩ := hd.get hn
    have gd := good d (List.mem_of_getElem? hdi)
    obtain ⟨a, z, y, rfl, ha, rfl, _, _⟩ := pair_of dz gd
    refine ⟨a, [.str z, .str y], rfl, same_sqt m ha, rfl, ?_⟩
    refine s_gcons (s_name (s_gcons (s_name (s_gnil ?_))))
    refine ⟨hw _ _, s_yes (iteT ?_)⟩
    refine s_var (hi _ _) (s_var (hj _ _) ?_)
    have tk : ds.take (n + 1) = ds.take n ++ [.tuple [.str z, .str y]] := by
      rw [List.take_add_one, hdi]
      rfl
    refine ⟨(ds.take n).map kv1, .inr z, rfl, at_, by rw [sizeLine_eq, List.length_map, List.length_take]; omega, same_upd m fresh, ?_⟩
    rw [upd_same, putK_new, tk, List.map_append]
    · rfl
    · intro q hq e
      obtain ⟨c, hc, rfl⟩ := List.mem_map.mp hq
      rw [kv1_key (good c (List.mem_of_mem_take hc))] at e
      have e2 : nm1 c = z := Sum.inr.inj e
      have nd2 : ((ds.take (n + 1)).map nm1).Nodup := by
        rw [List.map_take]
        exact List.Nodup.sublist (List.take_sublist _ _) nd
      rw [tk, List.map_append] at nd2
      have := (List.nodup_append.mp nd2).2.2 (nm1 c) (List.mem_map_of_mem hc) z (by show z ∈ [nm1 (.tuple [.str z, .str y])]; exact List.mem_singleton.mpr rfl)
      exact this e2
  · rintro H1 ⟨m, at_⟩
    rw [hd.len, List.take_length] at at_
    exact done D H1 fresh m at_
theorem Dz.tuple {H : Hp} {v : V} {ds : List PyData} (h : Dz K H v (.tuple ds)) : ∃ a xs, v = .ref a ∧ SqT K H a xs ∧ DzAll K H xs ds := by
  cases h with
  | tup a b => exact ⟨_, _, rfl, a, b⟩
def kvsD : PyData → List (Key × V)
  | .tuple ds => ds.map kv1
  | _ => []
/-- streams are made, or refused -/
def spStreams (K : PySem.W.Frag) (C CF : Addr) : Sp := fun vs H Q E => ∃ p dx v u d e, vs = [.ref p, v, u] ∧ H p = some (.ins C dx []) ∧ Dz K (hid p H) v d ∧ Dz K (hid p H) u e ∧ wt d ≤ 10000000 ∧ wt e ≤ 10000000 ∧
  (strsD d e = false → ∀ H1, Same H H1 → E (.ref CF) none H1) ∧
  (strsD d e = true → ∀ H1 n m o, PlainT o → (∀ b o, H b = some o → b ≠ p → H1 b = some o) → H1 p = some (.ins C dx (sF v u (.ref n) (.ref m))) → H1 n = some (.frz o (.tup (oneOf (nmsD d ++ nmsD e)))) → H1 m = some (.dK (kvsD d ++ kvsD e)) → Q .non H1)
abbrev sStreams___init__ : Stmt := inClass (topS 20) 0
theorem scStreams___init__ : FnScope ["self", "sources", "sinks", "pair", "name", "signs"] ["self", "sources", "sinks"] (defScope sStreams___init__) := ⟨rfl, rfl, rfl, by decide +kernel, rfl, by decide +kernel, by decide +kernel⟩
theorem ok_streams {f C CF fas fk fst fn fs fl : Addr} {fd fdas fdk fdst fdn fds fdl : FuncData} (T : Txt2 mg) (N8 : Num mg "MAX_NAME" 8) (N4 : Num mg "MAX_SIGNS" 4) (N3 : Num mg "MAX_KIND" 3) (F : Fun K "__init__" "Streams.__init__" sStreams___init__ f fd) (SC : StrmC K C) (XInvalidStreams : Err K mg "InvalidStreams" CF)
    (D_are_streams : Def K mg "_are_streams" s_are_streams ["sources", "sinks"] fas fdas) (D_are_kind : Def K mg "_are_kind" s_are_kind ["value", "fewest"] fk fdk) (D_is_stream : Def K mg "_is_stream" s_is_stream ["value"] fst fdst)
    (Dis_name : Def K mg "is_name" sis_name ["value"] fn fdn) (Dis_signs : Def K mg "is_signs" sis_signs ["value"] fs fds) (Dare_letters : Def K mg "are_letters" sare_letters ["text"] fl fdl) : FnOk P w K mg base (L2.CX P w) 6 f fd ["self", "sources", "sinks"] (spStreams K C CF) := by
  have G_are_streams : FnOk P w K mg base CX0 5 fas fdas ["sources", "sinks"] (spBoth K) := ok_are_streams T N8 N4 N3 D_are_streams D_are_kind D_is_stream Dis_name Dis_signs Dare_letters
  refine F.okX scStreams___init__ (fun vs H Q E h => ?_) (fun cdv A outer s H vs Q E hr h => ?_)
  · obtain ⟨p, dx, v, u, d, e, rfl, _⟩ := h
    rfl
  · obtain ⟨p, dx, v, u, d, e, rfl, hp, dz, dy, ld, le, no, yes⟩ := h
    have hu := hr.units
    refine ⟨_, (pss_cons (ps_if (pt_not (pt_val (pe_call G_are_streams (hr.mono (by decide)) (by rfl) D_are_streams.g D_are_streams.F.kp D_are_streams.b .nil pass0 (pa_cons (pv 1) (pa_cons (pv 2) pa_nil)))))
  (pss_one (ps_raise rfl (takes_of rfl rfl rfl rfl) (pmk_own PySem.F.excBase_ValueError (XInvalidStreams).x (XInvalidStreams).g (XInvalidStreams).k (raises_own (XInvalidStreams).b (XInvalidStreams).t) (by exact rfl))))
  pss_nil)
 (pss_cons (ps_fld (pv 0) (pv 1) rfl)
 (pss_cons (ps_fld (pv 0) (pv 2) rfl)
 (pss_cons (ps_fld (pv 0) (pe_callTy (Z.k_tupleX (K := K)) (by rfl) T.tuple (by decide +kernel) (pa_cons (pe_lc (own := [("pair", 3)]) (by rfl) scStreams___init__.nd (pi_tup (pe_op (Z.k_add (K := K)) (pv 1) (pv 2))) (blkOk_by (own := [("pair", 3)]) (N := ["self", "sources", "sinks", "pair", "name", "signs"]) (sc := defScope sStreams___init__) (by decide +kernel))
   (fun _ _ _ _ _ => (pg_name (i := 3) scStreams___init__.nd rfl (by first | exact Or.inl rfl | exact Or.inr rfl))) (fun _ _ _ _ _ => pts_nil) (fun _ _ _ _ _ => (pe_ix (Z.k_item (K := K)) (pv 3) pe_int (fun _ _ => rfl)))) pa_nil)) rfl)
 (pss_one (ps_fld (pv 0) (pe_dc (own := [("name", 4), ("signs", 5)]) (by rfl) scStreams___init__.nd (pi_tup (pe_op (Z.k_add (K := K)) (pv 1) (pv 2))) (blkOk_by (own := [("name", 4), ("signs", 5)]) (N := ["self", "sources", "sinks", "pair", "name", "signs"]) (sc := defScope sStreams___init__) (by decide +kernel))
   (fun _ _ _ _ _ => (Z.k_tup (K := K) (n := 2) rfl (pgs_cons (pg_name (i := 4) scStreams___init__.nd rfl (by first | exact Or.inl rfl | exact Or.inr rfl)) (pgs_cons (pg_name (i := 5) scStreams___init__.nd rfl (by first | exact Or.inl rfl | exact Or.inr rfl)) pgs_nil)))) (fun _ _ _ _ _ => pts_nil) (fun _ _ _ _ _ => (pv 4)) (fun _ _ _ _ _ => (pv 5))) rfl)))))), ?_⟩
    walk_at "st"
    refine ⟨v, u, d, e, rfl, dz.un, dy.un, ld, le, fun H1 m => ?_⟩
    refine s_bl (P := _) ?_
    cases b : strsD d e with
    | false =>
      refine iteT ?_
      exact no b H1 m
    | true =>
      refine iteF ?_
      walk_at "st"
      obtain ⟨b1, b2⟩ : kindD 1 d = true ∧ kindD 0 e = true := by
        unfold strsD at b
        rw [Bool.and_eq_true, Bool.and_eq_true] at b
        exact b.1
      obtain ⟨ds, rfl, d1, d3, dg⟩ := kind_of b1
      obtain ⟨es, rfl, _, e3, eg⟩ := kind_of b2
      have h1 := m _ _ hp
      have k1 : Kp p H H1 := Kp.of m
      with_reducible refine s_sfld ?_
      walk_at "st"
      refine ⟨p, C, dx, [], rfl, h1, SC.cl, SC.n1, by decide, ?_⟩
      rw [show putF "_sources" v ([] : List (Str × V)) = sF1 v from rfl]
      generalize e1 : upd H1 p _ = H2
      have h2 : H2 p = some (.ins C dx (sF1 v)) := by rw [← e1]; exact upd_same
      have k2 : Kp p H H2 := by rw [← e1]; exact k1.set
      walk_at "st"
      with_reducible refine s_sfld ?_
      walk_at "st"
      refine ⟨p, C, dx, _, rfl, h2, SC.cl, SC.n2, by show 1 < 1000; decide, ?_⟩
      rw [putF2]
      generalize e2 : upd H2 p _ = H3
      have h3 : H3 p = some (.ins C dx (sF2 v u)) := by rw [← e2]; exact upd_same
      have k3 : Kp p H H3 := by rw [← e2]; exact k2.set
      have dz3 := (dz.kp k3).un
      have dy3 := (dy.kp k3).un
      clear e1 e2
      obtain ⟨av, xs, rfl, ha, had⟩ := dz3.tuple
      obtain ⟨au, ys, rfl, hb, hbd⟩ := dy3.tuple
      have l1 := had.len
      have l2 := hbd.len
      have good : ∀ d ∈ ds ++ es, strmD d = true := by
        intro d hd
        rcases List.mem_append.mp hd with hd | hd
        · exact dg d hd
        · exact eg d hd
      have few : (ds ++ es).length ≤ 1000 := by
        rw [List.length_append]
        omega
      walk_at "st"
      with_reducible refine s_sfld ?_
      walk_at "st"
      refine cat_tup ha hb (by omega) fun q H4 m4 hq => ?_
      walk_at "st"
      refine ⟨⟨_, hq⟩, comp_names (ds := ds ++ es) hq ((DzAll.same m4 _ _ had).app (DzAll.same m4 _ _ hbd)) good few (fun _ => rfl) (fun _ => rfl) ?_⟩
      intro L H5 fresh m5 hL
      walk_at "st"
      refine ⟨L, _, rfl, SqL.of hL, fun t to nt po => ?_⟩
      generalize e6 : upd H5 t _ = H6
      have m6 : Same H3 H6 := by rw [← e6]; exact same_new (m4.trans m5) nt
      have t6 : H6 t = some (.frz to (.tup (oneOf ((ds ++ es).map nm1)))) := by rw [← e6]; exact upd_same
      have tp : t ≠ p := by
        intro z
        have h5 := (m4.trans m5) _ _ h3
        rw [z, h5] at nt
        cases nt
      walk_at "st"
      refine ⟨p, C, dx, _, rfl, m6 _ _ h3, SC.cl, SC.n3, by show 2 < 1000; decide, ?_⟩
      rw [putF3]
      generalize e7 : upd H6 p _ = H7
      have h7 : H7 p = some (.ins C dx (sF3 (.ref av) (.ref au) (.ref t))) := by rw [← e7]; exact upd_same
      have t7 : H7 t = some (.frz to (.tup (oneOf ((ds ++ es).map nm1)))) := by rw [← e7, upd_ne tp]; exact t6
      have k7 : Kp p H H7 := by
        rw [← e7]
        exact Kp.set (k3.trans (Kp.of m6))
      have dz7 := (dz.kp k7).un
      have dy7 := (dy.kp k7).un
      clear e6 e7
      obtain ⟨_, xs7, ea7, ha7, had7⟩ := dz7.tuple
      obtain ⟨_, ys7, eb7, hb7, hbd7⟩ := dy7.tuple
      cases ea7
      cases eb7
      have l17 := had7.len
      have l27 := hbd7.len
      have nd : ((ds ++ es).map nm1).Nodup := by
        rw [strsD_yes b1 b2] at b
        exact of_decide_eq_true b
      walk_at "st"
      with_reducible refine s_sfld ?_
      with_reducible refine s_dc ?_
      walk_at "st"
      refine cat_tup ha7 hb7 (by omega) fun q8 H8 m8 hq8 => ?_
      refine ⟨q8, rfl, ⟨_, hq8⟩, ?_⟩
      refine dc_names (ds := ds ++ es) hq8 ((DzAll.same m8 _ _ had7).app (DzAll.same m8 _ _ hbd7)) good nd few (fun _ _ => rfl) (fun _ _ => rfl) (fun _ _ => rfl) ?_
      intro L9 H9 fresh9 m9 at9
      have s79 := m8.trans m9
      have Lp : L9 ≠ p := by
        intro z
        have h9 := s79 _ _ h7
        rw [z, h9] at at9
        cases at9
      walk_at "st"
      refine ⟨p, C, dx, _, rfl, s79 _ _ h7, SC.cl, SC.n4, by show 3 < 1000; decide, ?_⟩
      rw [putF4]
      refine yes b _ t L9 to po (fun b o hb ne => ?_) upd_same ?_ ?_
      · exact Kp.at (Kp.set (k7.trans (Kp.of s79))) hb ne
      · rw [upd_ne tp, s79 _ _ t7, List.map_append]
        rfl
      · rw [upd_ne Lp, at9, List.map_append]
        rfl
end
end Z
/-! len(o), str(o) of an own class. -/
namespace Z
open PySem PySem.Spec PyProof.Rows L2 G
section
variable {X : Cx} {CX : CXT} {n : Nat} {f C : Addr} {fd : FuncData} {ps : List Str} {sp : Sp} {E : XK}
/-- an own method, called by the machine itself -/
theorem run_at {A : Around} {pins : List (Addr × Obj)} {σ : L2.St} {H : Hp} {s : Shared} {Q : VK} {us : List Value} {vs : List V} (F : FnOk X.prog X.w X.K X.mg X.base CX n f fd ps sp) (room : Room n A) (fr : A.frames = X.A.frames) (b : Binds X.K fd ps []) (hx : Passes CX X E)
    (I : Inv X pins σ H s) (r : Vals vs us) (h : sp vs H Q E) : wpAny (model X.prog X.w) A (call (.ref f) us) (EP X pins σ Q) X.xe s := by
  have e := I.env0
  have e0 : Env0 X.prog X.w X.K X.mg X.base A X.stack s H := ⟨by rw [fr]; exact e.frames, e.mod, e.bs, e.bsz, e.funs, e.frf, e.hok, e.bare⟩
  have many : us.length = ps.length := by
    rw [← r.length]
    exact F.len _ _ _ _ h
  have bd := b s us I.kIn (by rw [List.append_nil]; exact many)
  rw [List.append_nil] at bd
  refine wpAny_call (codeAny_mono (F.run A X.stack s H ⟨us, []⟩ us vs Q E room e0 bd r h) ?_)
  intro res t done
  cases res with
  | error er => exact hx pins σ H s er t I done
  | ok fl =>
    cases fl with
    | ret u => exact I.after done
    | next => exact False.elim done
    | brk => exact False.elim done
    | cont => exact False.elim done
/-- len(o) -/
def rLenO (C : Addr) (sp : Sp) (E : XK) : List V → Hp → VK → Prop := fun xs H Q => ∃ a dx fs, xs = [.ref a] ∧ H a = some (.ins C dx fs) ∧ sp [.ref a] H (fun v H1 => ∃ k : Nat, v = .int k ∧ k < 2 ^ 62 ∧ Q (.int k) H1) E
theorem call_lenO (F : FnOk X.prog X.w X.K X.mg X.base CX n f fd ps sp) (room : Room (n + 1) X.A) (at_ : PySem.W.findIn X.K (.ref C) "__len__" = some (some (.ref f))) (fn : PySem.W.isFn X.K (.ref f) = true) (b : Binds X.K fd ps []) (hx : Passes CX X E) : CallR X (.builtin "len") (rLenO C sp E) := by
  intro pins s σ H xs us Q I r h
  obtain ⟨a, dx, fs, rfl, ha, q⟩ := h
  have eu : us = [.ref a] := by
    cases r with
    | cons x y =>
      cases y
      cases x
      rfl
  subst eu
  obtain ⟨mA, J, _⟩ := ins_get I.hok ha
  obtain ⟨od, J, _⟩ := J.look
  refine Calls.call_function_entry PySem.kind_len PySem.plain_len PySem.entry_len (PySem.args_len1 _) ?_
  unfold Builtin.«len»
  refine wpAny_bind (m := oneArg "len" _) (wpAny_pure ?_)
  refine wpAny_bind (m := callSpecial? (.ref a) (Str.ofString "__len__")) (PySem.W.special_fn I.kIn J at_ (beq_iff_eq.mp fn) (wpAny_mono (run_at (vs := [.ref a]) F room.in1 rfl b hx I (.cons rfl .nil) q) ?_ (fun _ _ z => z)))
  rintro v s1 ⟨w, H1, I1, rv, k, ek, small, q1⟩
  subst ek
  obtain ⟨t, rfl⟩ := rv
  refine wpAny_bind (wpAny_holding (wpAny_pure ?_))
  refine wpAny_bind (wpAny_letGo ?_)
  show wpAny _ _ (if ((k : Nat) : Int) < 0 then _ else _) _ _ _
  rw [if_neg (by omega)]
  show wpAny _ _ (if ((k : Nat) : Int) ≥ 2 ^ 63 then _ else _) _ _ _
  rw [if_neg (by omega)]
  exact wpAny_bind (wpAny_mkInt (wpAny_pure ⟨_, rfl, .int k, H1, I1.tok _, ⟨_, rfl⟩, q1⟩))
/-- x in o -/
theorem contains_own {M : Model} {A : Around} {E : Value → Shared → Prop} {K : PySem.W.Frag} {s : Shared} {c C f : Addr} {x : Value} {ox : Obj} {od : Option Obj} {Q : Bool → Shared → Prop} (inK : K.In s.heap) (J : PySem.W.InstAt s.heap c ox C od) (at_ : PySem.W.findIn K (.ref C) "__contains__" = some (some (.ref f))) (fn : PySem.W.isFn K (.ref f) = true)
    (h : wpAny M A (call (.ref f) [.ref c, x]) (fun r s1 => ∃ b, r = .bool b ∧ Q b s1) E s) : wpAny M A (contains (.ref c) x) Q E s := by
  have looks : ∀ {Q2 : Option Value → Shared → Prop}, Q2 (some (.ref f)) s → wpAny M A (specialOf (.ref c) "__contains__") Q2 E s := by
    intro Q2 q
    unfold specialOf
    exact wpAny_bind (J.type.here ((PySem.W.looks_findIn inK at_).here q))
  unfold contains
  refine wpAny_holding ?_
  show wpAny M A (specialOf (.ref c) "__contains__" >>= _) Q E s
  refine wpAny_bind (looks ?_)
  show wpAny M A (callSpecialUnlessNone? (.ref c) "__contains__" [x] _ >>= _) Q E s
  refine wpAny_bind ?_
  unfold callSpecialUnlessNone?
  refine wpAny_bind (looks ?_)
  refine wpAny_holding (wpAny_bind ((PySem.W.bind_fn inK _ (beq_iff_eq.mp fn)).here ?_))
  show wpAny M A (call (.ref f) ([.ref c] ++ [x]) >>= _) _ _ _
  refine wpAny_bind (wpAny_mono h ?_ fun _ _ z => z)
  rintro r s1 ⟨b, rfl, q⟩
  exact wpAny_pure (wpAny_truthy_bool q)
def rInO (C : Addr) (sp : Sp) (E : XK) : R2 := fun x y H Q => ∃ a dx fs, y = .ref a ∧ H a = some (.ins C dx fs) ∧ sp [.ref a, x] H (fun v H1 => ∃ b, v = .bl b ∧ Q (.bl b) H1) E
theorem op_inO (F : FnOk X.prog X.w X.K X.mg X.base CX n f fd ps sp) (room : Room n X.A) (at_ : PySem.W.findIn X.K (.ref C) "__contains__" = some (some (.ref f))) (fn : PySem.W.isFn X.K (.ref f) = true) (b : Binds X.K fd ps []) (hx : Passes CX X E) : OpR X (compareOp .In) (rInO C sp E) := by
  intro pins s σ H x y v u Q I rx ry h
  obtain ⟨a, dx, fs, rfl, ha, q⟩ := h
  cases ry
  obtain ⟨mA, J, _⟩ := ins_get I.hok ha
  obtain ⟨od, J, _⟩ := J.look
  show wpAny (model X.prog X.w) X.A (do return Value.bool (← contains (.ref a) v)) (EP X pins σ Q) X.xe s
  refine wpAny_bind (contains_own I.kIn J at_ fn (wpAny_mono (run_at (vs := [.ref a, x]) F room rfl b hx I (.cons rfl (.cons rx .nil)) q) ?_ fun _ _ z => z))
  rintro r s1 ⟨w, H1, I1, rv, k, ek, q1⟩
  subst ek
  cases rv
  exact ⟨k, rfl, wpAny_pure ⟨.bl k, H1, I1, rfl, q1⟩⟩
/-- a class whose instances add by an own __add__ -/
structure AddsBy (K : PySem.W.Frag) (C f : Addr) : Prop where
  at_ : PySem.W.findIn K (.ref C) "__add__" = some (some (.ref f))
  fn : PySem.W.isFn K (.ref f) = true
  own : ∃ cd rest, PySem.W.clsIn K C = some cd ∧ cd.mro = .ref C :: rest
theorem add_own {M : Model} {A : Around} {E : Value → Shared → Prop} {K : PySem.W.Frag} {s : Shared} {a b C f : Addr} {oa ob : Obj} {da db : Option Obj} {Q : Value → Shared → Prop} (inK : K.In s.heap) (J : PySem.W.InstAt s.heap a oa C da) (J2 : PySem.W.InstAt s.heap b ob C db) (by_ : AddsBy K C f)
    (h : wpAny M A (call (.ref f) [.ref a, .ref b]) (fun r s1 => r ≠ .notImplemented ∧ Q r s1) E s) : wpAny M A (binaryOp .Add (.ref a) (.ref b)) Q E s := by
  obtain ⟨cd, rest, hc, hm⟩ := by_.own
  have ty : ∀ {x : Addr} {ox : Obj} {dx : Option Obj} {Q2 : Value → Shared → Prop}, PySem.W.InstAt s.heap x ox C dx → Q2 (.ref C) s → wpAny M A (typeOf (.ref x)) Q2 E s := fun J q => J.type.here q
  have fills : ∀ {Q2 : Bool → Shared → Prop}, Q2 true s → wpAny M A (fillsNumberSlot (.ref C) "add") Q2 E s := by
    intro Q2 q
    unfold fillsNumberSlot
    show wpAny M A (mroOf (.ref C) >>= _) Q2 E s
    refine wpAny_bind ?_
    show wpAny M A (classData C >>= _) _ E s
    refine wpAny_bind ((PySem.W.looks_clsIn inK hc).here (wpAny_pure ?_))
    rw [hm]
    unfold List.anyM
    refine wpAny_bind ?_
    show wpAny M A (List.anyM _ [dunder "add", dunderR "add"]) _ E s
    unfold List.anyM
    rw [show dunder "add" = Str.ofString "__add__" from by decide +kernel]
    refine wpAny_bind (wpAny_bind ((PySem.W.looks_findIn inK by_.at_).here ?_))
    show wpAny M A (if (!ownNameWrapper (.ref f) _) = true then pure true else _) _ E s
    rw [if_pos (show (!ownNameWrapper (.ref f) (Str.ofString "__add__")) = true from rfl)]
    exact wpAny_pure (wpAny_pure (wpAny_pure q))
  have tried : ∀ {Q2 : Option Value → Shared → Prop}, wpAny M A (call (.ref f) [.ref a, .ref b]) (fun r s1 => r ≠ .notImplemented ∧ Q2 (some r) s1) E s → wpAny M A (tryMethod (.ref a) (dunder "add") (.ref b)) Q2 E s := by
    intro Q2 q
    unfold tryMethod
    refine wpAny_bind (PySem.W.special_fn inK J by_.at_ (beq_iff_eq.mp by_.fn) (wpAny_mono q ?_ fun _ _ z => z))
    rintro r s1 ⟨n, q1⟩
    cases r <;> first | exact absurd rfl n | exact wpAny_pure q1
  unfold binaryOp
  refine wpAny_holding ?_
  show wpAny M A (binaryOp1 "add" (.ref a) (.ref b) >>= _) Q E s
  refine wpAny_bind ?_
  unfold binaryOp1
  refine wpAny_bind (ty J (wpAny_bind (ty J2 (wpAny_bind (fills ?_)))))
  dsimp only
  rw [if_pos (by simp : (Value.ref C == Value.ref C) = true)]
  refine wpAny_bind (wpAny_pure ?_)
  simp only [Bool.and_false, Bool.false_and, Bool.false_eq_true, if_false, if_true]
  refine wpAny_bind (wpAny_pure ?_)
  rw [if_neg Bool.false_ne_true]
  refine wpAny_bind (tried (wpAny_mono h ?_ fun _ _ z => z))
  rintro r s1 ⟨ne, q⟩
  exact ⟨ne, wpAny_pure (wpAny_pure q)⟩
/-- o + p -/
def rAddO (C : Addr) (sp : Sp) (E : XK) : R2 := fun x y H Q => ∃ a b dx dy fs gs, x = .ref a ∧ y = .ref b ∧ H a = some (.ins C dx fs) ∧ H b = some (.ins C dy gs) ∧ sp [.ref a, .ref b] H Q E
theorem rel_not {v : V} {u : Value} (r : RelV v u) : u ≠ .notImplemented := by
  rintro rfl
  cases v with
  | non => cases r
  | bl b => cases r
  | int i => obtain ⟨_, e⟩ := r; cases e
  | str i => obtain ⟨_, e⟩ := r; cases e
  | byt i => obtain ⟨_, e⟩ := r; cases e
  | flt i => obtain ⟨_, e⟩ := r; cases e
  | ref a => cases r
  | ty n => cases r
theorem op_addO (F : FnOk X.prog X.w X.K X.mg X.base CX n f fd ps sp) (room : Room n X.A) (by_ : AddsBy X.K C f) (b : Binds X.K fd ps []) (hx : Passes CX X E) : OpR X (binaryOp .Add) (rAddO C sp E) := by
  intro pins s σ H x y v u Q I rx ry h
  obtain ⟨a, c, dx, dy, fs, gs, rfl, rfl, ha, hc, q⟩ := h
  cases rx
  cases ry
  obtain ⟨mA, J, _⟩ := ins_get I.hok ha
  obtain ⟨od, J, _⟩ := J.look
  obtain ⟨mB, J2, _⟩ := ins_get I.hok hc
  obtain ⟨od2, J2, _⟩ := J2.look
  refine add_own I.kIn J J2 by_ (wpAny_mono (run_at (vs := [.ref a, .ref c]) F room rfl b hx I (.cons rfl (.cons rfl .nil)) q) ?_ fun _ _ z => z)
  rintro r s1 ⟨w, H1, I1, rv, q1⟩
  exact ⟨rel_not rv, w, H1, I1, rv, q1⟩
/-- str(o) -/
def rStrO (C : Addr) (sp : Sp) (E : XK) : List V → Hp → VK → Prop := fun xs H Q => ∃ a dx fs, xs = [.ref a] ∧ H a = some (.ins C dx fs) ∧ sp [.ref a] H (fun v H1 => ∃ z, v = .str z ∧ Q (.str z) H1) E
theorem call_strO (F : FnOk X.prog X.w X.K X.mg X.base CX n f fd ps sp) (room : Room (n + 2) X.A) (at_ : PySem.W.findIn X.K (.ref C) "__str__" = some (some (.ref f))) (fn : PySem.W.isFn X.K (.ref f) = true) (b : Binds X.K fd ps []) (hx : Passes CX X E) : CallR X (.type "str") (rStrO C sp E) := by
  intro pins s σ H xs us Q I r h
  obtain ⟨a, dx, fs, rfl, ha, q⟩ := h
  have eu : us = [.ref a] := by
    cases r with
    | cons x y =>
      cases y
      cases x
      rfl
  subst eu
  obtain ⟨mA, J, _⟩ := ins_get I.hok ha
  obtain ⟨od, J, _⟩ := J.look
  refine PySem.W.kso_call (by have := room.in1.in1.un; omega) I.kIn J at_ fn (wpAny_mono (run_at (vs := [.ref a]) F room.in1.in1 rfl b hx I (.cons rfl .nil) q) ?_ fun _ _ z => z)
  rintro v s1 ⟨w, H1, I1, rv, k, ek, q1⟩
  subst ek
  obtain ⟨t, rfl⟩ := rv
  exact ⟨.str k, H1, I1, ⟨t, rfl⟩, q1⟩
/-- o == p by an own __eq__, both of the class -/
def rEqO (C : Addr) (sp : Sp) (E : XK) : R2 := fun x y H Q => ∃ a b dx dy fs gs, x = .ref a ∧ y = .ref b ∧ H a = some (.ins C dx fs) ∧ H b = some (.ins C dy gs) ∧ sp [.ref a, .ref b] H (fun v H1 => ∃ k, v = .bl k ∧ Q (.bl k) H1) E
theorem op_eqO (F : FnOk X.prog X.w X.K X.mg X.base CX n f fd ps sp) (room : Room n X.A) (at_ : PySem.W.findIn X.K (.ref C) "__eq__" = some (some (.ref f))) (fn : PySem.W.isFn X.K (.ref f) = true) (b : Binds X.K fd ps []) (hx : Passes CX X E) : OpR X (compareOp .Eq) (rEqO C sp E) := by
  intro pins s σ H x y v u Q I rx ry h
  obtain ⟨a, c, dx, dy, fs, gs, rfl, rfl, ha, hc, q⟩ := h
  cases rx
  cases ry
  obtain ⟨mA, J, _⟩ := ins_get I.hok ha
  obtain ⟨od, J, _⟩ := J.look
  obtain ⟨mB, J2, _⟩ := ins_get I.hok hc
  obtain ⟨od2, J2, _⟩ := J2.look
  obtain ⟨m, hF⟩ := I.fr
  show wpAny _ _ (richCompare .Eq _ _) _ _ _
  refine PySem.W.cmp_K (op := .Eq) (tb := .ref C) room.units0 hF I.ok.mod.kin J J2.type (by simp [PySem.W.notFirst]) at_ fn ?_
  refine wpAny_mono (run_at (vs := [.ref a, .ref c]) F room rfl b hx I (.cons rfl (.cons rfl .nil)) q) ?_ fun _ _ z => z
  rintro r s1 ⟨w, H1, I1, rv, k, ek, q1⟩
  subst ek
  cases rv
  exact ⟨.bl k, H1, I1, rfl, q1⟩
def rNotInO (C : Addr) (sp : Sp) (E : XK) : R2 := fun x y H Q => ∃ a dx fs, y = .ref a ∧ H a = some (.ins C dx fs) ∧ sp [.ref a, x] H (fun v H1 => ∃ b, v = .bl b ∧ Q (.bl (!b)) H1) E
theorem op_notInO (F : FnOk X.prog X.w X.K X.mg X.base CX n f fd ps sp) (room : Room n X.A) (at_ : PySem.W.findIn X.K (.ref C) "__contains__" = some (some (.ref f))) (fn : PySem.W.isFn X.K (.ref f) = true) (b : Binds X.K fd ps []) (hx : Passes CX X E) : OpR X (compareOp .NotIn) (rNotInO C sp E) := by
  intro pins s σ H x y v u Q I rx ry h
  obtain ⟨a, dx, fs, rfl, ha, q⟩ := h
  cases ry
  obtain ⟨mA, J, _⟩ := ins_get I.hok ha
  obtain ⟨od, J, _⟩ := J.look
  show wpAny (model X.prog X.w) X.A (do return Value.bool (!(← contains (.ref a) v))) (EP X pins σ Q) X.xe s
  refine wpAny_bind (contains_own I.kIn J at_ fn (wpAny_mono (run_at (vs := [.ref a, x]) F room rfl b hx I (.cons rfl (.cons rx .nil)) q) ?_ fun _ _ z => z))
  rintro r s1 ⟨w, H1, I1, rv, k, ek, q1⟩
  subst ek
  cases rv
  exact ⟨k, rfl, wpAny_pure ⟨.bl (!k), H1, I1, rfl, q1⟩⟩
end
end Z
/-! A text is no dict. -/
namespace Z
open PySem PySem.Spec PyProof.Rows L2 G
open SeqAt
theorem str_no_dict (l : Addr) (es : Array DictEntry) (ep : Nat) (sl : Array (Option Value)) (b : Str) (u : Tok) :
    Meets (Builtin.«str.__eq__» ⟨[.str b u, .ref l], []⟩) (fun _ R s => s.heap.get? l = some { cls := .type "dict", dict := none, data := .dict es ep, slots := sl } ∧ R (.ok (.ret .notImplemented)) s) :=
  .of_wp fun prog w A R s h => by
    obtain ⟨hp, g, d, tk, os⟩ := s
    obtain ⟨hl, h⟩ := h
    have f1 := PySem.F.sub_dict_str
    wp_walk using wpAny_loadPart' hl
    exact ⟨_, rfl, h⟩
theorem dict_no_str (l : Addr) (es : Array DictEntry) (ep : Nat) (sl : Array (Option Value)) (b : Str) (u : Tok) :
    Meets (Builtin.«dict.__eq__» ⟨[.ref l, .str b u], []⟩) (fun _ R s => s.heap.get? l = some { cls := .type "dict", dict := none, data := .dict es ep, slots := sl } ∧ R (.ok (.ret .notImplemented)) s) :=
  .of_wp fun prog w A R s h => by
    obtain ⟨hp, g, d, tk, os⟩ := s
    obtain ⟨hl, h⟩ := h
    have f1 := PySem.F.sub_str_dict
    unfold Builtin.«dict.__eq__»
    wp_walk using wpAny_loadPart' hl
    exact ⟨_, rfl, h⟩
section
variable {A : Around} {s : Shared}
theorem rc_str_dict {l : Addr} {o : Obj} {es : Array DictEntry} {ep : Nat} (b : Str) (u : Tok) (ho : s.heap.get? l = some o) (hx : o.ExactDict) (hd : o.data = .dict es ep) (hu : A.units < cLine) : RcAt A s (.str b u) (.ref l) false := fun prog w E Q h => by
  obtain ⟨cls, dd, data, sl⟩ := o
  obtain ⟨h1, h2, h3⟩ := hx
  simp only at h1 h2 hd
  subst h1 h2 hd
  exact rc_eq_decline_or (k := false) (typeIs_str s b u) ⟨_, ho, rfl⟩ (by decide) PySem.F.sub_dict_str PySem.F.slot_str_eq PySem.F.slot_dict_eq_refl
    (fun _ hq => call_meets PySem.F.slot_str_eq (typeIs_str s b u) PySem.F.entry_str_eq (PySem.F.args_str_eq_2 _ _) (str_no_dict l es ep sl b u) ⟨ho, hq⟩)
    (fun _ hq => call_meets PySem.F.slot_dict_eq_refl ⟨_, ho, rfl⟩ PySem.F.entry_dict_eq (PySem.F.args_dict_eq_2 _ _) (dict_no_str l es ep sl b u) ⟨ho, hq⟩)
    (fun _ hq => wpAny_of_eq (rfl : isSame (.str b u) (.ref l) = pure false) hq) (.inr hu) h
theorem eq_str_dict {l : Addr} {o : Obj} {es : Array DictEntry} {ep : Nat} (b : Str) (u : Tok) (ho : s.heap.get? l = some o) (hx : o.ExactDict) (hd : o.data = .dict es ep) (hu : A.units < cLine) : EqAt A s (.str b u) (.ref l) false := fun prog w E Q h => by
  unfold eqBool
  refine wpAny_holding ?_
  refine wpAny_ite_split (fun hab => absurd (eq_of_beq hab) nofun) (fun _ => ?_)
  exact wpAny_bind (rc_str_dict b u ho hx hd hu prog w E _ (wpAny_truthy_bool h))
end
/-- is the value one of these texts? -/
def inD (ys : List Str) : PyData → Bool
  | .str z => decide (z ∈ ys)
  | _ => false
def rInN (K : PySem.W.Frag) : R2 := fun x y H Q => ∃ p ys d, y = .ref p ∧ SqT K H p (ys.map V.str) ∧ Dz K H x d ∧ Q (.bl (inD ys d)) H
theorem op_inN {X : Cx} (hu : X.A.units + 64 < cLine) : OpR X (compareOp .In) (rInN X.K) := by
  intro pins s σ H x y v u Q I rx ry h
  obtain ⟨p, ys, d, rfl, hp, dz, q⟩ := h
  have u1 : X.A.in1.units < cLine := by
    show X.A.units + 1 < cLine
    omega
  cases ry
  obtain ⟨its, rel, tup, _⟩ := I.tuple hp
  have texts : ∀ w, w ∈ its.toArray → ∃ z t, w = Value.str z t := by
    intro w hw
    have hw2 : w ∈ its := by simpa using hw
    have : ∀ {zs : List Str} {us : List Value}, Vals (zs.map V.str) us → ∀ w ∈ us, ∃ z t, w = Value.str z t := by
      intro zs
      induction zs with
      | nil =>
        intro us r w hw
        cases r
        cases hw
      | cons z zs ih =>
        intro us r w hw
        cases r with
        | cons a b =>
          rcases List.mem_cons.mp hw with e | hw
          · obtain ⟨t, e2⟩ := a
            exact ⟨z, t, e.trans e2⟩
          · exact ih b w hw
    exact this rel w hw2
  have none_of : inD ys d = false → (∀ w, w ∈ its.toArray → EqAt X.A.in1 s w v false) → wpAny (model X.prog X.w) X.A (compareOp .In v (.ref p)) (EP X pins σ Q) X.xe s := by
    intro e he
    refine in_tupleAt (fun _ => false) tup he ?_
    have z : its.toArray.any (fun _ => false) = false := by simp
    rw [z]
    rw [e] at q
    exact ⟨.bl false, H, I, rfl, q⟩
  cases d with
  | str z =>
    cases dz
    refine op_in_seq pins s σ H _ (.ref p) _ _ Q I rx rfl ⟨p, ys.map V.str, rfl, .inr hp, rfl, ?_, ?_⟩
    · rw [List.all_map]
      exact List.all_eq_true.mpr fun _ _ => rfl
    · have e : inV (.str z) (ys.map V.str) = inD ys (.str z) := by
        show _ = decide (z ∈ ys)
        unfold inV
        rw [List.any_map, Bool.eq_iff_iff, List.any_eq_true, decide_eq_true_eq]
        constructor
        · rintro ⟨y, hy, e⟩
          have e2 : y = z := by
            have e3 : (y == z) = true := e
            exact eq_of_beq e3
          rw [← e2]
          exact hy
        · intro hz
          exact ⟨z, hz, beq_self_eq_true z⟩
      show Q (.bl (inV (.str z) (ys.map V.str))) H
      rw [e]
      exact q
  | none =>
    cases dz
    cases rx
    refine none_of rfl fun w hw => ?_
    obtain ⟨z, t, rfl⟩ := texts w hw
    exact SeqAt.EqAt.str_none z t
  | bool b =>
    cases dz
    cases rx
    refine none_of rfl fun w hw => ?_
    obtain ⟨z, t, rfl⟩ := texts w hw
    exact SeqAt.EqAt.str_bool z t b
  | int i =>
    cases dz
    obtain ⟨t2, rfl⟩ := rx
    refine none_of rfl fun w hw => ?_
    obtain ⟨z, t, rfl⟩ := texts w hw
    exact SeqAt.EqAt.str_int z t i t2
  | list ds =>
    cases dz with
    | lst a b =>
      cases rx
      obtain ⟨its2, _, pl, _⟩ := I.list a
      refine none_of rfl fun w hw => ?_
      obtain ⟨z, t, rfl⟩ := texts w hw
      exact SeqAt.EqAt.str_list z t pl.isList u1
  | tuple ds =>
    cases dz with
    | tup a b =>
      cases rx
      obtain ⟨its2, _, tp, _⟩ := I.tuple a
      refine none_of rfl fun w hw => ?_
      obtain ⟨z, t, rfl⟩ := texts w hw
      exact SeqAt.EqAt.str_tuple z t tp u1
  | dict es =>
    cases dz with
    | dic a b c =>
      cases rx
      obtain ⟨_, _, vs, _, o, en, ep, ho, hex, hd, _⟩ := I.hok _ _ a
      refine none_of rfl fun w hw => ?_
      obtain ⟨z, t, rfl⟩ := texts w hw
      exact eq_str_dict z t ho hex hd u1
end Z
local macro_rules | `(tactic| walk_at "st") => `(tactic| repeat (first
  | ((with_reducible refine' Z.s_var ?h ?_); (case h => exact rfl))
  | with_reducible refine Z.s_c ?_
  | with_reducible refine Z.s_op ?_
  | with_reducible refine Z.s_un ?_
  | with_reducible refine Z.s_nil ?_
  | with_reducible refine Z.s_cons ?_
  | with_reducible refine Z.s_cb ?_
  | with_reducible refine Z.s_call ?_
  | with_reducible refine Z.s_tup ?_
  | with_reducible refine Z.s_lst ?_
  | with_reducible refine Z.s_test ?_
  | with_reducible refine Z.s_B ?_
  | with_reducible refine Z.s_and ?_
  | with_reducible refine Z.s_or ?_
  | with_reducible refine Z.s_not ?_
  | with_reducible refine Z.s_andV ?_
  | with_reducible refine Z.s_orV ?_
  | with_reducible refine Z.s_notV ?_
  | with_reducible refine Z.s_if ?_
  | with_reducible refine Z.s_chain ?_
  | with_reducible refine Z.s_seq ?_
  | with_reducible refine Z.s_next ?_
  | with_reducible refine Z.s_drop ?_
  | with_reducible refine Z.s_ret ?_
  | with_reducible refine Z.s_ifS ?_
  | with_reducible refine Z.s_asg ?_
  | with_reducible refine Z.s_name ?_
  | with_reducible refine Z.s_par ?_
  | with_reducible refine Z.s_item ?_
  | with_reducible refine Z.s_part ?_
  | with_reducible refine Z.s_noPart ?_
  | with_reducible refine Z.s_cut ?_
  | with_reducible refine Z.s_bm0 ?_
  | with_reducible refine Z.s_bm ?_
  | with_reducible refine Z.s_bl (P := _) ?_
  | with_reducible refine Z.s_two (P := _) ?_
  | with_reducible refine Z.s_int (P := _) ?_
  | with_reducible refine Z.a_addI ?_
  | with_reducible refine Z.a_subI ?_
  | with_reducible refine Z.a_ltI ?_
  | with_reducible refine Z.a_leI ?_
  | with_reducible refine Z.a_gtI ?_
  | with_reducible refine Z.a_geI ?_
  | with_reducible refine Z.a_eqI ?_
  | with_reducible refine Z.a_neI ?_
  | with_reducible refine Z.a_eqS ?_
  | with_reducible refine Z.a_neS ?_
  | with_reducible refine Z.a_eqB ?_
  | with_reducible refine Z.a_neB ?_
  | with_reducible refine Z.a_isN ?_
  | with_reducible refine Z.a_notN ?_
  | with_reducible refine Z.a_setL ?_
  | with_reducible refine Z.a_int ?_
  | with_reducible refine Z.a_intB ?_
  | with_reducible refine Z.a_abs ?_
  | with_reducible refine Z.a_max ?_
  | with_reducible refine Z.a_min ?_
  | with_reducible refine Z.s_lc ?_
  | with_reducible refine Z.s_for ?_
  | with_reducible refine Z.s_iList ?_
  | with_reducible refine Z.s_iTup ?_
  | with_reducible refine Z.s_iStr ?_
  | with_reducible refine Z.s_rng1 ?_
  | with_reducible refine Z.s_rng2 ?_
  | with_reducible refine Z.s_gtup ?_
  | with_reducible refine Z.s_gcons ?_
  | with_reducible refine Z.s_gnil ?_
  | with_reducible refine Z.s_yes ?_
  | with_reducible refine Z.s_ref (P := _) ?_
  | with_reducible refine Z.s_str (P := _) ?_
  | with_reducible refine Z.s_one (P := _) ?_
  | with_reducible refine Z.s_m1 ?_
  | with_reducible refine Z.s_m0 ?_
  | with_reducible refine Z.s_isStr ?_))
namespace Z
open PySem PySem.Spec PyProof.Rows L2 G
section
variable {P : Program} {w : World} {K : PySem.W.Frag} {mg : Str → Option Value} {base : Heap}
/-- a method of an own class -/
structure MethAt (K : PySem.W.Frag) (C : Addr) (m qual : Str) (st : Stmt) (ps : List Str) (f : Addr) (fd : FuncData) : Prop where
  F : Fun K m qual st f fd
  at_ : PySem.W.findIn K (.ref C) m = some (some (.ref f))
  fn : PySem.W.isFn K (.ref f) = true
  b : Binds K fd ps []
theorem MethAt.meth {C f : Addr} {m qual : Str} {st : Stmt} {ps : List Str} {fd : FuncData} (M : MethAt K C m qual st ps f fd) : Meth K C m f := ⟨M.at_, M.fn, M.F.kp⟩
def kvp (p : Str × Str) : Key × V := (.inr p.1, .str p.2)
/-- streams with these sources and sinks -/
def StAt (K : PySem.W.Frag) (C : Addr) (H : Hp) (a : Addr) (ps qs : List (Str × Str)) : Prop := ∃ dx v u n m o, H a = some (.ins C dx (sF v u (.ref n) (.ref m))) ∧ Dz K H v (.tuple (ps.map prD)) ∧ Dz K H u (.tuple (qs.map prD)) ∧ (PlainT o ∧ H n = some (.frz o (.tup (oneOf ((ps ++ qs).map (·.1)))))) ∧ H m = some (.dK ((ps ++ qs).map kvp))
theorem StAt.same {C a : Addr} {H H1 : Hp} {ps qs : List (Str × Str)} (h : StAt K C H a ps qs) (s : Same H H1) : StAt K C H1 a ps qs :=
  let ⟨dx, v, u, n, m, o, h1, h2, h3, ⟨po, h4⟩, h5⟩ := h
  ⟨dx, v, u, n, m, o, s _ _ h1, Dz.same s _ _ h2, Dz.same s _ _ h3, ⟨po, s _ _ h4⟩, s _ _ h5⟩
theorem sqt_frz {H : Hp} {a : Addr} {o : Obj} {xs : List V} (h : H a = some (.frz o (.tup xs))) : SqT K H a xs := .inl (.inr ⟨o, h⟩)
theorem lk_here {k : Str} {v : V} {r : List (Str × V)} : List.lookup k ((k, v) :: r) = some v := by
  have e : (k == k) = true := beq_self_eq_true k
  simp only [List.lookup, e]
theorem lk_past {k g : Str} {v : V} {r : List (Str × V)} (h : (k == g) = false) : List.lookup k ((g, v) :: r) = List.lookup k r := by
  simp only [List.lookup, h]
theorem sF_1 (v u n m : V) : (sF v u n m).lookup ("_sources" : Str) = some v := lk_here
theorem sF_2 (v u n m : V) : (sF v u n m).lookup ("_sinks" : Str) = some u := (lk_past (by decide +kernel)).trans lk_here
theorem sF_3 (v u n m : V) : (sF v u n m).lookup ("_names" : Str) = some n := (lk_past (by decide +kernel)).trans ((lk_past (by decide +kernel)).trans lk_here)
theorem sF_4 (v u n m : V) : (sF v u n m).lookup ("_signs" : Str) = some m := (lk_past (by decide +kernel)).trans ((lk_past (by decide +kernel)).trans ((lk_past (by decide +kernel)).trans lk_here))
/-- a name that is no attribute -/
theorem sF_no {v u n m : V} {x : Str} (h1 : (x == ("_sources" : Str)) = false) (h2 : (x == ("_sinks" : Str)) = false) (h3 : (x == ("_names" : Str)) = false) (h4 : (x == ("_signs" : Str)) = false) : (sF v u n m).lookup x = none :=
  (lk_past h1).trans ((lk_past h2).trans ((lk_past h3).trans ((lk_past h4).trans rfl)))
theorem s_fld {σ : L2.St} {H : Hp} {Q : VK} {ta : TE} {f : Str} (q : ta σ H fun x H1 => ∃ a C dx fs v, x = .ref a ∧ H1 a = some (.ins C dx fs) ∧ Cls K C ∧ NoAttr K C f ∧ fs.lookup f = some v ∧ Q v H1) : tFld K ta f σ H Q := q
theorem s_dget {σ : L2.St} {H : Hp} {Q : VK} {td ty : TE} (q : td σ H fun x H1 => ty σ H1 fun y H2 => ∃ a v, x = .ref a ∧ DGet H2 a y (some v) ∧ Q v H2) : tDGet td ty σ H Q := q
theorem s_meth {C : Addr} {m : Str} {sp : Sp} {E : XK} {ta : TE} {t : TA} {σ : L2.St} {H : Hp} {Q : VK} (q : ta σ H fun x H1 => ∃ a dx fs, x = .ref a ∧ H1 a = some (.ins C dx fs) ∧ fs.lookup m = none ∧ t σ H1 fun vs H2 => sp (x :: vs) H2 Q E) : tMeth C m sp [] E ta t σ H Q := by
  unfold tMeth
  simp only [List.append_nil]
  exact q
/-- how many streams -/
def spLenS (K : PySem.W.Frag) (C : Addr) : Sp := fun vs H Q _ => ∃ a ps qs, vs = [.ref a] ∧ StAt K C H a ps qs ∧ Q (.int ((ps ++ qs).length : Nat)) H
abbrev sStreams___len__ : Stmt := inClass (topS 20) 17
theorem scStreams___len__ : FnScope ["self"] ["self"] (defScope sStreams___len__) := ⟨rfl, rfl, rfl, by decide +kernel, rfl, by decide +kernel, by decide +kernel⟩
theorem ok_len {f C : Addr} {fd : FuncData} (T : Txt2 mg) (SC : StrmC K C) (M : MethAt K C "__len__" "Streams.__len__" sStreams___len__ ["self"] f fd) : FnOk P w K mg base CX0 1 f fd ["self"] (spLenS K C) := by
  refine M.F.ok scStreams___len__ (fun vs H Q E h => ?_) (fun cdv A outer s H vs Q E hr h => ?_)
  · obtain ⟨a, ps, qs, rfl, _⟩ := h
    rfl
  · obtain ⟨a, ps, qs, rfl, ⟨dx, v, u, n, m, o, h1, h2, h3, ⟨po, h4⟩, h5⟩, k⟩ := h
    refine ⟨_, (pss_one (ps_ret (pe_callB (Z.k_len (K := K)) (by rfl) T.len (by decide +kernel) (pa_cons (pe_fld (pv 0) rfl) pa_nil)))), ?_⟩
    walk_at "st"
    with_reducible refine s_fld ?_
    walk_at "st"
    refine ⟨a, C, dx, _, _, rfl, h1, SC.cl, SC.n3, sF_3 _ _ _ _, ?_⟩
    walk_at "st"
    refine .inl ⟨_, .inr (sqt_frz h4), ?_⟩
    rw [List.length_map, List.length_map]
    exact k
/-- is it a name of them? -/
def spContS (K : PySem.W.Frag) (C : Addr) : Sp := fun vs H Q _ => ∃ a ps qs x d, vs = [.ref a, x] ∧ StAt K C H a ps qs ∧ Dz K H x d ∧ Q (.bl (inD ((ps ++ qs).map (·.1)) d)) H
theorem k_inN {X : Cx} (hu : X.A.units + 64 < cLine) (h : X.K = K := by rfl) : OpR X (compareOp .In) (rInN K) := by
  subst h
  exact op_inN hu
abbrev sStreams___contains__ : Stmt := inClass (topS 20) 16
theorem scStreams___contains__ : FnScope ["self", "value"] ["self", "value"] (defScope sStreams___contains__) := ⟨rfl, rfl, rfl, by decide +kernel, rfl, by decide +kernel, by decide +kernel⟩
theorem ok_cont {f C : Addr} {fd : FuncData} (SC : StrmC K C) (M : MethAt K C "__contains__" "Streams.__contains__" sStreams___contains__ ["self", "value"] f fd) : FnOk P w K mg base CX0 1 f fd ["self", "value"] (spContS K C) := by
  refine M.F.ok scStreams___contains__ (fun vs H Q E h => ?_) (fun cdv A outer s H vs Q E hr h => ?_)
  · obtain ⟨a, ps, qs, x, d, rfl, _⟩ := h
    rfl
  · obtain ⟨a, ps, qs, x, d, rfl, ⟨dx, v, u, n, m, o, h1, h2, h3, ⟨po, h4⟩, h5⟩, dz, k⟩ := h
    have hu := hr.units
    refine ⟨_, (pss_one (ps_ret (pe_cmpR (Z.k_inN (K := K) hu) (pv 1) (pe_fld (pv 0) rfl) (by rfl)))), ?_⟩
    walk_at "st"
    with_reducible refine s_fld ?_
    walk_at "st"
    refine ⟨a, C, dx, _, _, rfl, h1, SC.cl, SC.n3, sF_3 _ _ _ _, ?_⟩
    exact ⟨n, _, d, rfl, sqt_frz h4, dz, k⟩
/-- its place among all names -/
structure NameAt (ps qs : List (Str × Str)) (j : Nat) (z y : Str) : Prop where
  at_ : (ps ++ qs)[j]? = some (z, y)
  nd : ((ps ++ qs).map (·.1)).Nodup
theorem NameAt.mem {ps qs : List (Str × Str)} {j : Nat} {z y : Str} (h : NameAt ps qs j z y) : z ∈ (ps ++ qs).map (·.1) := List.mem_map.mpr ⟨_, List.mem_of_getElem? h.at_, rfl⟩
theorem NameAt.name {ps qs : List (Str × Str)} {j : Nat} {z y : Str} (h : NameAt ps qs j z y) : ((ps ++ qs).map (·.1))[j]? = some z := by
  rw [List.getElem?_map, h.at_]
  rfl
theorem NameAt.first {ps qs : List (Str × Str)} {j : Nat} {z y : Str} (h : NameAt ps qs j z y) : ∀ m, m < j → ((ps ++ qs).map (·.1))[m]? ≠ some z := by
  intro m lt e
  obtain ⟨l1, e1⟩ := List.getElem?_eq_some_iff.mp e
  obtain ⟨l2, e2⟩ := List.getElem?_eq_some_iff.mp h.name
  have := (List.getElem_inj h.nd).mp (e1.trans e2.symm)
  omega
def spIsSrc (K : PySem.W.Frag) (C : Addr) : Sp := fun vs H Q _ => ∃ a ps qs j z y, vs = [.ref a, .str z] ∧ StAt K C H a ps qs ∧ NameAt ps qs j z y ∧ Q (.bl (decide (j < ps.length))) H
abbrev sStreams_is_source : Stmt := inClass (topS 20) 5
theorem scStreams_is_source : FnScope ["self", "name"] ["self", "name"] (defScope sStreams_is_source) := ⟨rfl, rfl, rfl, by decide +kernel, rfl, by decide +kernel, by decide +kernel⟩
theorem ok_is_source {f C fc : Addr} {fd fdc : FuncData} (T : Txt2 mg) (SC : StrmC K C) (M : MethAt K C "is_source" "Streams.is_source" sStreams_is_source ["self", "name"] f fd) (M__contains__ : MethAt K C "__contains__" "Streams.__contains__" sStreams___contains__ ["self", "value"] fc fdc) : FnOk P w K mg base CX0 2 f fd ["self", "name"] (spIsSrc K C) := by
  have G__contains__ : FnOk P w K mg base CX0 1 fc fdc ["self", "value"] (spContS K C) := ok_cont SC M__contains__
  refine M.F.ok scStreams_is_source (fun vs H Q E h => ?_) (fun cdv A outer s H vs Q E hr h => ?_)
  · obtain ⟨a, ps, qs, j, z, y, rfl, _⟩ := h
    rfl
  · obtain ⟨a, ps, qs, j, z, y, rfl, st, na, k⟩ := h
    obtain ⟨dx, v, u, n, m, o, h1, h2, h3, ⟨po, h4⟩, h5⟩ := id st
    refine ⟨_, (pss_cons (ps_if (pt_cmpR (Z.op_notInO G__contains__ (hr.mono (by decide)) M__contains__.at_ M__contains__.fn M__contains__.b pass0) (pv 1) (pv 0) (by rfl))
  (pss_one ps_never)
  pss_nil)
 (pss_one (ps_ret (pe_cmpR Z.op_lt (Z.k_bmt PySem.F.plainAttrs_tuple PySem.F.slot_tuple_index PySem.F.type_tuple_index (Z.k_indexT (K := K)) (pe_fld (pv 0) rfl) (pa_cons (pv 1) pa_nil)) (pe_callB (Z.k_len (K := K)) (by rfl) T.len (by decide +kernel) (pa_cons (pe_fld (pv 0) rfl) pa_nil)) (nomark _))))), ?_⟩
    walk_at "st"
    refine ⟨a, dx, _, rfl, h1, a, ps, qs, _, _, rfl, st, .str z, _, rfl, ?_⟩
    walk_at "st"
    rw [show inD ((ps ++ qs).map (·.1)) (.str z) = true from decide_eq_true na.mem]
    refine iteF ?_
    walk_at "st"
    with_reducible refine s_bmt ?_
    with_reducible refine s_fld ?_
    walk_at "st"
    refine ⟨a, C, dx, _, _, rfl, h1, SC.cl, SC.n3, sF_3 _ _ _ _, ?_⟩
    refine ⟨⟨n, o, _, rfl, h4, po⟩, ?_⟩
    walk_at "st"
    refine ⟨n, _, z, j, rfl, rfl, sqt_frz h4, na.name, na.first, ?_⟩
    walk_at "st"
    with_reducible refine s_fld ?_
    walk_at "st"
    refine ⟨a, C, dx, _, _, rfl, h1, SC.cl, SC.n1, sF_1 _ _ _ _, ?_⟩
    obtain ⟨_, xs, rfl, hx, hd⟩ := h2.tuple
    walk_at "st"
    refine len_tup hx hd ?_
    walk_at "st"
    rw [List.length_map]
    have e : decide (((j : Nat) : Int) < ((ps.length : Nat) : Int)) = decide (j < ps.length) := by
      by_cases c : j < ps.length
      · rw [decide_eq_true c, decide_eq_true (by omega)]
      · rw [decide_eq_false c, decide_eq_false (by omega)]
    rw [e]
    exact k
/-- its place among its kind -/
def spIdx (K : PySem.W.Frag) (C : Addr) : Sp := fun vs H Q _ => ∃ a ps qs j z y, vs = [.ref a, .str z] ∧ StAt K C H a ps qs ∧ NameAt ps qs j z y ∧ Q (.int ((if j < ps.length then j else j - ps.length : Nat))) H
abbrev sStreams_index_of : Stmt := inClass (topS 20) 6
theorem scStreams_index_of : FnScope ["self", "name"] ["self", "name"] (defScope sStreams_index_of) := ⟨rfl, rfl, rfl, by decide +kernel, rfl, by decide +kernel, by decide +kernel⟩
theorem ok_index_of {f C fc fi : Addr} {fd fdc fdi : FuncData} (T : Txt2 mg) (SC : StrmC K C) (M : MethAt K C "index_of" "Streams.index_of" sStreams_index_of ["self", "name"] f fd) (Mis_source : MethAt K C "is_source" "Streams.is_source" sStreams_is_source ["self", "name"] fi fdi) (M__contains__ : MethAt K C "__contains__" "Streams.__contains__" sStreams___contains__ ["self", "value"] fc fdc) : FnOk P w K mg base CX0 3 f fd ["self", "name"] (spIdx K C) := by
  have Gis_source : FnOk P w K mg base CX0 2 fi fdi ["self", "name"] (spIsSrc K C) := ok_is_source T SC Mis_source M__contains__
  refine M.F.ok scStreams_index_of (fun vs H Q E h => ?_) (fun cdv A outer s H vs Q E hr h => ?_)
  · obtain ⟨a, ps, qs, j, z, y, rfl, _⟩ := h
    rfl
  · obtain ⟨a, ps, qs, j, z, y, rfl, st, na, k⟩ := h
    obtain ⟨dx, v, u, n, m, o, h1, h2, h3, ⟨po, h4⟩, h5⟩ := id st
    refine ⟨_, (pss_cons (ps_if (pt_val (pe_meth (pv 0) SC.cl Mis_source.meth Gis_source (hr.mono (by decide)) Mis_source.b .nil pass0 (pa_cons (pv 1) pa_nil)))
  (pss_one (ps_ret (Z.k_bmt PySem.F.plainAttrs_tuple PySem.F.slot_tuple_index PySem.F.type_tuple_index (Z.k_indexT (K := K)) (pe_fld (pv 0) rfl) (pa_cons (pv 1) pa_nil))))
  pss_nil)
 (pss_one (ps_ret (pe_op Z.op_sub (Z.k_bmt PySem.F.plainAttrs_tuple PySem.F.slot_tuple_index PySem.F.type_tuple_index (Z.k_indexT (K := K)) (pe_fld (pv 0) rfl) (pa_cons (pv 1) pa_nil)) (pe_callB (Z.k_len (K := K)) (by rfl) T.len (by decide +kernel) (pa_cons (pe_fld (pv 0) rfl) pa_nil)))))), ?_⟩
    walk_at "st"
    with_reducible refine s_meth ?_
    walk_at "st"
    refine ⟨a, dx, _, rfl, h1, sF_no (by decide +kernel) (by decide +kernel) (by decide +kernel) (by decide +kernel), ?_⟩
    walk_at "st"
    refine ⟨a, ps, qs, j, z, y, rfl, st, na, ?_⟩
    refine s_bl (P := _) ?_
    have two : ∀ {Q2 : VK}, Q2 (.int (j : Nat)) H → tBMT (rIndexT K) (tFld K (tVar 0) "_names") (tCons (tVar 1) tNil) (L2.start ["self", "name"] [.ref a, .str z]) H Q2 := by
      intro Q2 q
      refine s_bmt ?_
      refine s_fld ?_
      refine s_var rfl ?_
      refine ⟨a, C, dx, _, _, rfl, h1, SC.cl, SC.n3, sF_3 _ _ _ _, ⟨n, o, _, rfl, h4, po⟩, ?_⟩
      refine s_cons (s_var rfl (s_nil ?_))
      exact ⟨n, _, z, j, rfl, rfl, sqt_frz h4, na.name, na.first, q⟩
    by_cases c : j < ps.length
    · rw [decide_eq_true c]
      rw [if_pos c] at k
      refine iteT ?_
      walk_at "st"
      refine two ?_
      exact k
    · rw [decide_eq_false c]
      rw [if_neg c] at k
      refine iteF ?_
      walk_at "st"
      refine two ?_
      with_reducible refine s_cb ?_
      walk_at "st"
      with_reducible refine s_fld ?_
      walk_at "st"
      refine ⟨a, C, dx, _, _, rfl, h1, SC.cl, SC.n1, sF_1 _ _ _ _, ?_⟩
      obtain ⟨_, xs, rfl, hx, hd⟩ := h2.tuple
      walk_at "st"
      refine len_tup hx hd ?_
      walk_at "st"
      rw [List.length_map]
      have e : ((j : Nat) : Int) - ((ps.length : Nat) : Int) = ((j - ps.length : Nat) : Int) := by omega
      rw [e]
      exact k
/-- its signs -/
def spSgn (K : PySem.W.Frag) (C : Addr) : Sp := fun vs H Q _ => ∃ a ps qs j z y, vs = [.ref a, .str z] ∧ StAt K C H a ps qs ∧ NameAt ps qs j z y ∧ Q (.str y) H
end
end Z
local macro_rules | `(tactic| walk_at "st") => `(tactic| repeat (first
  | ((with_reducible refine' Z.s_var ?h ?_); (case h => exact rfl))
  | with_reducible refine Z.s_c ?_
  | with_reducible refine Z.s_op ?_
  | with_reducible refine Z.s_un ?_
  | with_reducible refine Z.s_nil ?_
  | with_reducible refine Z.s_cons ?_
  | with_reducible refine Z.s_cb ?_
  | with_reducible refine Z.s_call ?_
  | with_reducible refine Z.s_tup ?_
  | with_reducible refine Z.s_lst ?_
  | with_reducible refine Z.s_test ?_
  | with_reducible refine Z.s_B ?_
  | with_reducible refine Z.s_and ?_
  | with_reducible refine Z.s_or ?_
  | with_reducible refine Z.s_not ?_
  | with_reducible refine Z.s_andV ?_
  | with_reducible refine Z.s_orV ?_
  | with_reducible refine Z.s_notV ?_
  | with_reducible refine Z.s_if ?_
  | with_reducible refine Z.s_chain ?_
  | with_reducible refine Z.s_seq ?_
  | with_reducible refine Z.s_next ?_
  | with_reducible refine Z.s_drop ?_
  | with_reducible refine Z.s_ret ?_
  | with_reducible refine Z.s_ifS ?_
  | with_reducible refine Z.s_asg ?_
  | with_reducible refine Z.s_name ?_
  | with_reducible refine Z.s_par ?_
  | with_reducible refine Z.s_item ?_
  | with_reducible refine Z.s_part ?_
  | with_reducible refine Z.s_noPart ?_
  | with_reducible refine Z.s_cut ?_
  | with_reducible refine Z.s_bm0 ?_
  | with_reducible refine Z.s_bm ?_
  | with_reducible refine Z.s_bl (P := _) ?_
  | with_reducible refine Z.s_two (P := _) ?_
  | with_reducible refine Z.s_int (P := _) ?_
  | with_reducible refine Z.a_addI ?_
  | with_reducible refine Z.a_subI ?_
  | with_reducible refine Z.a_ltI ?_
  | with_reducible refine Z.a_leI ?_
  | with_reducible refine Z.a_gtI ?_
  | with_reducible refine Z.a_geI ?_
  | with_reducible refine Z.a_eqI ?_
  | with_reducible refine Z.a_neI ?_
  | with_reducible refine Z.a_eqS ?_
  | with_reducible refine Z.a_neS ?_
  | with_reducible refine Z.a_eqB ?_
  | with_reducible refine Z.a_neB ?_
  | with_reducible refine Z.a_isN ?_
  | with_reducible refine Z.a_notN ?_
  | with_reducible refine Z.a_setL ?_
  | with_reducible refine Z.a_int ?_
  | with_reducible refine Z.a_intB ?_
  | with_reducible refine Z.a_abs ?_
  | with_reducible refine Z.a_max ?_
  | with_reducible refine Z.a_min ?_
  | with_reducible refine Z.s_lc ?_
  | with_reducible refine Z.s_for ?_
  | with_reducible refine Z.s_iList ?_
  | with_reducible refine Z.s_iTup ?_
  | with_reducible refine Z.s_iStr ?_
  | with_reducible refine Z.s_rng1 ?_
  | with_reducible refine Z.s_rng2 ?_
  | with_reducible refine Z.s_gtup ?_
  | with_reducible refine Z.s_gcons ?_
  | with_reducible refine Z.s_gnil ?_
  | with_reducible refine Z.s_yes ?_
  | with_reducible refine Z.s_ref (P := _) ?_
  | with_reducible refine Z.s_str (P := _) ?_
  | with_reducible refine Z.s_one (P := _) ?_
  | with_reducible refine Z.s_m1 ?_
  | with_reducible refine Z.s_m0 ?_
  | with_reducible refine Z.s_isStr ?_))
namespace Z
open PySem PySem.Spec PyProof.Rows L2 G
section
variable {P : Program} {w : World} {K : PySem.W.Frag} {mg : Str → Option Value} {base : Heap}
theorem valV_at : ∀ {l : List (Str × Str)} {j : Nat} {z y : Str}, l[j]? = some (z, y) → (l.map (·.1)).Nodup → valV (l.map kvp) (.inr z : Key) = some (.str y)
  | p :: l, 0, z, y, h, nd => by
    have e : p = (z, y) := Option.some.inj h
    subst e
    exact valV_pos rfl
  | p :: l, j + 1, z, y, h, nd => by
    have h2 : l[j]? = some (z, y) := h
    obtain ⟨n1, n2⟩ := List.nodup_cons.mp nd
    have ne : ¬ (kvp p).1 = (Sum.inr z : Key) := fun e => by
      have e2 : p.1 = z := Sum.inr.inj e
      refine n1 ?_
      show p.1 ∈ _
      rw [e2]
      exact List.mem_map.mpr ⟨_, List.mem_of_getElem? h2, rfl⟩
    exact (valV_neg ne).trans (valV_at h2 n2)
  | [], _, _, _, h, _ => by simp at h
abbrev sStreams_signs_of : Stmt := inClass (topS 20) 4
theorem scStreams_signs_of : FnScope ["self", "name"] ["self", "name"] (defScope sStreams_signs_of) := ⟨rfl, rfl, rfl, by decide +kernel, rfl, by decide +kernel, by decide +kernel⟩
theorem ok_signs_of {f C fc : Addr} {fd fdc : FuncData} (T : Txt2 mg) (SC : StrmC K C) (M : MethAt K C "signs_of" "Streams.signs_of" sStreams_signs_of ["self", "name"] f fd) (M__contains__ : MethAt K C "__contains__" "Streams.__contains__" sStreams___contains__ ["self", "value"] fc fdc) : FnOk P w K mg base CX0 2 f fd ["self", "name"] (spSgn K C) := by
  have G__contains__ : FnOk P w K mg base CX0 1 fc fdc ["self", "value"] (spContS K C) := ok_cont SC M__contains__
  refine M.F.ok scStreams_signs_of (fun vs H Q E h => ?_) (fun cdv A outer s H vs Q E hr h => ?_)
  · obtain ⟨a, ps, qs, j, z, y, rfl, _⟩ := h
    rfl
  · obtain ⟨a, ps, qs, j, z, y, rfl, st, na, k⟩ := h
    obtain ⟨dx, v, u, n, m, o, h1, h2, h3, ⟨po, h4⟩, h5⟩ := id st
    refine ⟨_, (pss_cons (ps_if (pt_cmpR (Z.op_notInO G__contains__ (hr.mono (by decide)) M__contains__.at_ M__contains__.fn M__contains__.b pass0) (pv 1) (pv 0) (by rfl))
  (pss_one ps_never)
  pss_nil)
 (pss_one (ps_ret (pe_dget (hu_of hr) (pe_fld (pv 0) rfl) (pv 1) (fun _ _ => rfl))))), ?_⟩
    walk_at "st"
    refine ⟨a, dx, _, rfl, h1, a, ps, qs, _, _, rfl, st, .str z, _, rfl, ?_⟩
    walk_at "st"
    rw [show inD ((ps ++ qs).map (·.1)) (.str z) = true from decide_eq_true na.mem]
    refine iteF ?_
    walk_at "st"
    with_reducible refine s_dget ?_
    with_reducible refine s_fld ?_
    walk_at "st"
    refine ⟨a, C, dx, _, _, rfl, h1, SC.cl, SC.n4, sF_4 _ _ _ _, ?_⟩
    walk_at "st"
    refine ⟨m, .str y, rfl, ?_, k⟩
    have g := DGet.k (k := (.inr z : Key)) h5
    rw [valV_at na.at_ na.nd] at g
    exact g
/-- o == p: of equal streams or not -/
def spEqS (K : PySem.W.Frag) (C : Addr) : Sp := fun vs H Q _ => ∃ a b ps qs rs ts, vs = [.ref a, .ref b] ∧ StAt K C H a ps qs ∧ StAt K C H b rs ts ∧ Q (.bl (decide (ps = rs ∧ qs = ts))) H
end
end Z
local macro_rules | `(tactic| walk_at "st") => `(tactic| repeat (first
  | ((with_reducible refine' Z.s_var ?h ?_); (case h => exact rfl))
  | with_reducible refine Z.s_c ?_
  | with_reducible refine Z.s_op ?_
  | with_reducible refine Z.s_un ?_
  | with_reducible refine Z.s_nil ?_
  | with_reducible refine Z.s_cons ?_
  | with_reducible refine Z.s_cb ?_
  | with_reducible refine Z.s_call ?_
  | with_reducible refine Z.s_tup ?_
  | with_reducible refine Z.s_lst ?_
  | with_reducible refine Z.s_test ?_
  | with_reducible refine Z.s_B ?_
  | with_reducible refine Z.s_and ?_
  | with_reducible refine Z.s_or ?_
  | with_reducible refine Z.s_not ?_
  | with_reducible refine Z.s_andV ?_
  | with_reducible refine Z.s_orV ?_
  | with_reducible refine Z.s_notV ?_
  | with_reducible refine Z.s_if ?_
  | with_reducible refine Z.s_chain ?_
  | with_reducible refine Z.s_seq ?_
  | with_reducible refine Z.s_next ?_
  | with_reducible refine Z.s_drop ?_
  | with_reducible refine Z.s_ret ?_
  | with_reducible refine Z.s_ifS ?_
  | with_reducible refine Z.s_asg ?_
  | with_reducible refine Z.s_name ?_
  | with_reducible refine Z.s_par ?_
  | with_reducible refine Z.s_item ?_
  | with_reducible refine Z.s_part ?_
  | with_reducible refine Z.s_noPart ?_
  | with_reducible refine Z.s_cut ?_
  | with_reducible refine Z.s_bm0 ?_
  | with_reducible refine Z.s_bm ?_
  | with_reducible refine Z.s_bl (P := _) ?_
  | with_reducible refine Z.s_two (P := _) ?_
  | with_reducible refine Z.s_int (P := _) ?_
  | with_reducible refine Z.a_addI ?_
  | with_reducible refine Z.a_subI ?_
  | with_reducible refine Z.a_ltI ?_
  | with_reducible refine Z.a_leI ?_
  | with_reducible refine Z.a_gtI ?_
  | with_reducible refine Z.a_geI ?_
  | with_reducible refine Z.a_eqI ?_
  | with_reducible refine Z.a_neI ?_
  | with_reducible refine Z.a_eqS ?_
  | with_reducible refine Z.a_neS ?_
  | with_reducible refine Z.a_eqB ?_
  | with_reducible refine Z.a_neB ?_
  | with_reducible refine Z.a_isN ?_
  | with_reducible refine Z.a_notN ?_
  | with_reducible refine Z.a_setL ?_
  | with_reducible refine Z.a_int ?_
  | with_reducible refine Z.a_intB ?_
  | with_reducible refine Z.a_abs ?_
  | with_reducible refine Z.a_max ?_
  | with_reducible refine Z.a_min ?_
  | with_reducible refine Z.s_lc ?_
  | with_reducible refine Z.s_for ?_
  | with_reducible refine Z.s_iList ?_
  | with_reducible refine Z.s_iTup ?_
  | with_reducible refine Z.s_iStr ?_
  | with_reducible refine Z.s_rng1 ?_
  | with_reducible refine Z.s_rng2 ?_
  | with_reducible refine Z.s_gtup ?_
  | with_reducible refine Z.s_gcons ?_
  | with_reducible refine Z.s_gnil ?_
  | with_reducible refine Z.s_yes ?_
  | with_reducible refine Z.s_ref (P := _) ?_
  | with_reducible refine Z.s_str (P := _) ?_
  | with_reducible refine Z.s_one (P := _) ?_
  | with_reducible refine Z.s_m1 ?_
  | with_reducible refine Z.s_m0 ?_
  | with_reducible refine Z.s_isStr ?_))
namespace Z
open PySem PySem.Spec PyProof.Rows L2 G
section
variable {P : Program} {w : World} {K : PySem.W.Frag} {mg : Str → Option Value} {base : Heap}
/-- the class can be asked for by isinstance -/
structure IsC (K : PySem.W.Frag) (C : Addr) : Prop where
  ha : PySem.W.findIn K (.ref C) "__class__" = some (some (.builtin "object.__class__"))
  hn : PySem.W.specialIn K (.builtin "object.__class__") "__get__" = some (some (.builtin "getset_descriptor.__get__"))
  ht : PySem.W.takesIn K (.builtin "object.__class__") = some true
  hm : PySem.W.mroIn K C (.type "object") = some true
theorem is_own {C a dx : Addr} {H : Hp} {Q : VK} {fs : List (Str × V)} (I : IsC K C) (c : Cls K C) (h : H a = some (.ins C dx fs)) (q : Q (.bl true) H) : rIs K [.ref a, .ref C] H Q := by
  refine ⟨.ref C, true, .base (.ins h c I.ha I.hn I.ht I.hm), ?_, q⟩
  unfold PySem.W.kitOne
  rw [if_pos (by simp)]
theorem eqv_prD (p q : Str × Str) : PyData.eqv (prD p) (prD q) = decide (p = q) := by
  obtain ⟨a, b⟩ := p
  obtain ⟨c, d⟩ := q
  simp only [prD, PyData.eqv, PyData.eqvAll, Bool.and_true]
  by_cases e1 : a = c
  · by_cases e2 : b = d
    · subst e1 e2
      rw [decide_eq_true rfl]
      simp
    · have f : (b == d) = false := beq_eq_false_iff_ne.mpr e2
      rw [f, Bool.and_false, decide_eq_false fun z => e2 (congrArg Prod.snd z)]
  · have f : (a == c) = false := beq_eq_false_iff_ne.mpr e1
    rw [f, Bool.false_and, decide_eq_false fun z => e1 (congrArg Prod.fst z)]
theorem eqv_parts : ∀ ps rs : List (Str × Str), PyData.eqvAll (ps.map prD) (rs.map prD) = decide (ps = rs)
  | [], [] => by simp only [List.map_nil, PyData.eqvAll]; rfl
  | p :: ps, [] => by simp only [List.map_nil, List.map_cons, PyData.eqvAll]; rfl
  | [], r :: rs => by simp only [List.map_nil, List.map_cons, PyData.eqvAll]; rfl
  | p :: ps, r :: rs => by
    simp only [List.map_cons, PyData.eqvAll]
    rw [eqv_prD, eqv_parts ps rs]
    by_cases e1 : p = r
    · by_cases e2 : ps = rs
      · rw [e1, e2]
        simp
      · rw [decide_eq_false e2, Bool.and_false, decide_eq_false fun z => e2 (List.cons.inj z).2]
    · rw [decide_eq_false e1, Bool.false_and, decide_eq_false fun z => e1 (List.cons.inj z).1]
theorem dp_parts {H : Hp} : ∀ {ps : List (Str × Str)} {xs : List V}, DzAll K H xs (ps.map prD) → DpAll K H xs (ps.map prD)
  | [], _, h => by
    cases h
    exact .nil
  | p :: ps, _, h => by
    cases h with
    | cons a b =>
      refine .cons ?_ (dp_parts b)
      cases a with
      | tup s d =>
        cases d with
        | cons d1 d =>
          cases d with
          | cons d2 d =>
            cases d
            cases d1
            cases d2
            exact .tup s (.cons (.str _) (.cons (.str _) .nil))
/-- pairs whose texts are well formed can be compared -/
theorem shaped_parts {ps : List (Str × Str)} (h : ∀ p ∈ ps, nameB p.1 = true ∧ signsB p.2 = true) : SeqAt.shaped (.tuple (ps.map prD)) = true := by
  have letters : ∀ {z : Str}, wordB 8 z = true → PyData.canLay0 (.str z) = true := by
    intro z hz
    obtain ⟨_, _, m⟩ := wordB_len hz
    simp only [PyData.canLay0, PyData.strOk]
    rw [← Array.all_toList, List.all_eq_true]
    intro c hc
    have := m c hc
    unfold letB at this
    rw [Bool.and_eq_true, decide_eq_true_eq, decide_eq_true_eq] at this
    refine decide_eq_true ?_
    omega
  have lay : ∀ ps : List (Str × Str), (∀ p ∈ ps, nameB p.1 = true ∧ signsB p.2 = true) → PyData.canLayAll0 (ps.map prD) = true ∧ PyData.depthAll (ps.map prD) ≤ 1 := by
    intro ps
    induction ps with
    | nil =>
      intro _
      refine ⟨by simp only [List.map_nil, PyData.canLayAll0], ?_⟩
      simp only [List.map_nil, PyData.depthAll]
      exact Nat.zero_le _
    | cons p ps ih =>
      intro h
      obtain ⟨i1, i2⟩ := ih fun q hq => h q (List.mem_cons_of_mem _ hq)
      obtain ⟨n, s⟩ := h p List.mem_cons_self
      have cz := letters (z := p.1) (by unfold nameB at n; rw [Bool.and_eq_true] at n; exact n.1)
      have cy : PyData.canLay0 (.str p.2) = true := by
        refine letters ?_
        unfold signsB at s
        rw [Bool.and_eq_true] at s
        have h1 := s.1
        unfold wordB at h1 ⊢
        simp only [Bool.and_eq_true, decide_eq_true_eq] at h1 ⊢
        exact ⟨⟨h1.1.1, Nat.le_trans h1.1.2 (by decide)⟩, h1.2⟩
      constructor
      · simp only [List.map_cons, PyData.canLayAll0, PyData.canLay0, Bool.and_eq_true] at cz cy i1 ⊢
        exact ⟨⟨cz, cy, trivial⟩, i1⟩
      · simp only [List.map_cons, PyData.depthAll, PyData.depth]
        exact Nat.max_le.mpr ⟨by decide, i2⟩
  obtain ⟨a, b⟩ := lay ps h
  unfold SeqAt.shaped
  rw [Bool.and_eq_true]
  refine ⟨by simp only [PyData.canLay0]; exact a, decide_eq_true ?_⟩
  simp only [PyData.depth]
  omega
/-- parts == parts -/
theorem eq_parts {H : Hp} {Q : VK} {v u : V} {ps rs : List (Str × Str)} (h : Dz K H v (.tuple (ps.map prD))) (g : Dz K H u (.tuple (rs.map prD))) (hp : ∀ p ∈ ps, nameB p.1 = true ∧ signsB p.2 = true) (hr : ∀ p ∈ rs, nameB p.1 = true ∧ signsB p.2 = true) (q : Q (.bl (decide (ps = rs))) H) : Z.rEq K v u H Q := by
  obtain ⟨a, xs, rfl, ha, hx⟩ := h.tuple
  obtain ⟨b, ys, rfl, hb, hy⟩ := g.tuple
  refine .inr ⟨_, _, .tup ha (dp_parts hx), .tup hb (dp_parts hy), shaped_parts hp, shaped_parts hr, ?_⟩
  rw [show PyData.eqv (.tuple (ps.map prD)) (.tuple (rs.map prD)) = PyData.eqvAll (ps.map prD) (rs.map prD) from by simp only [PyData.eqv], eqv_parts]
  exact q
end
end Z
local macro_rules | `(tactic| walk_at "st") => `(tactic| repeat (first
  | ((with_reducible refine' Z.s_var ?h ?_); (case h => exact rfl))
  | with_reducible refine Z.s_c ?_
  | with_reducible refine Z.s_op ?_
  | with_reducible refine Z.s_un ?_
  | with_reducible refine Z.s_nil ?_
  | with_reducible refine Z.s_cons ?_
  | with_reducible refine Z.s_cb ?_
  | with_reducible refine Z.s_call ?_
  | with_reducible refine Z.s_tup ?_
  | with_reducible refine Z.s_lst ?_
  | with_reducible refine Z.s_test ?_
  | with_reducible refine Z.s_B ?_
  | with_reducible refine Z.s_and ?_
  | with_reducible refine Z.s_or ?_
  | with_reducible refine Z.s_not ?_
  | with_reducible refine Z.s_andV ?_
  | with_reducible refine Z.s_orV ?_
  | with_reducible refine Z.s_notV ?_
  | with_reducible refine Z.s_if ?_
  | with_reducible refine Z.s_chain ?_
  | with_reducible refine Z.s_seq ?_
  | with_reducible refine Z.s_next ?_
  | with_reducible refine Z.s_drop ?_
  | with_reducible refine Z.s_ret ?_
  | with_reducible refine Z.s_ifS ?_
  | with_reducible refine Z.s_asg ?_
  | with_reducible refine Z.s_name ?_
  | with_reducible refine Z.s_par ?_
  | with_reducible refine Z.s_item ?_
  | with_reducible refine Z.s_part ?_
  | with_reducible refine Z.s_noPart ?_
  | with_reducible refine Z.s_cut ?_
  | with_reducible refine Z.s_bm0 ?_
  | with_reducible refine Z.s_bm ?_
  | with_reducible refine Z.s_bl (P := _) ?_
  | with_reducible refine Z.s_two (P := _) ?_
  | with_reducible refine Z.s_int (P := _) ?_
  | with_reducible refine Z.a_addI ?_
  | with_reducible refine Z.a_subI ?_
  | with_reducible refine Z.a_ltI ?_
  | with_reducible refine Z.a_leI ?_
  | with_reducible refine Z.a_gtI ?_
  | with_reducible refine Z.a_geI ?_
  | with_reducible refine Z.a_eqI ?_
  | with_reducible refine Z.a_neI ?_
  | with_reducible refine Z.a_eqS ?_
  | with_reducible refine Z.a_neS ?_
  | with_reducible refine Z.a_eqB ?_
  | with_reducible refine Z.a_neB ?_
  | with_reducible refine Z.a_isN ?_
  | with_reducible refine Z.a_notN ?_
  | with_reducible refine Z.a_setL ?_
  | with_reducible refine Z.a_int ?_
  | with_reducible refine Z.a_intB ?_
  | with_reducible refine Z.a_abs ?_
  | with_reducible refine Z.a_max ?_
  | with_reducible refine Z.a_min ?_
  | with_reducible refine Z.s_lc ?_
  | with_reducible refine Z.s_for ?_
  | with_reducible refine Z.s_iList ?_
  | with_reducible refine Z.s_iTup ?_
  | with_reducible refine Z.s_iStr ?_
  | with_reducible refine Z.s_rng1 ?_
  | with_reducible refine Z.s_rng2 ?_
  | with_reducible refine Z.s_gtup ?_
  | with_reducible refine Z.s_gcons ?_
  | with_reducible refine Z.s_gnil ?_
  | with_reducible refine Z.s_yes ?_
  | with_reducible refine Z.s_ref (P := _) ?_
  | with_reducible refine Z.s_str (P := _) ?_
  | with_reducible refine Z.s_one (P := _) ?_
  | with_reducible refine Z.s_m1 ?_
  | with_reducible refine Z.s_m0 ?_
  | with_reducible refine Z.s_isStr ?_))
namespace Z
open PySem PySem.Spec PyProof.Rows L2 G
section
variable {P : Program} {w : World} {K : PySem.W.Frag} {mg : Str → Option Value} {base : Heap}
/-- all pairs are names with signs -/
def GoodP (ps : List (Str × Str)) : Prop := ∀ p ∈ ps, nameB p.1 = true ∧ signsB p.2 = true
/-- o == p: of equal streams or not -/
def spEqP (K : PySem.W.Frag) (C : Addr) : Sp := fun vs H Q _ => ∃ a b ps qs rs ts, vs = [.ref a, .ref b] ∧ StAt K C H a ps qs ∧ StAt K C H b rs ts ∧ GoodP ps ∧ GoodP qs ∧ GoodP rs ∧ GoodP ts ∧ Q (.bl (decide (ps = rs ∧ qs = ts))) H
abbrev sStreams___eq__ : Stmt := inClass (topS 20) 18
theorem scStreams___eq__ : FnScope ["self", "other"] ["self", "other"] (defScope sStreams___eq__) := ⟨rfl, rfl, rfl, by decide +kernel, rfl, by decide +kernel, by decide +kernel⟩
theorem ok_eq {f C : Addr} {fd : FuncData} (T : Txt2 mg) (SC : StrmC K C) (IC : IsC K C) (gStreams : mg "Streams" = some (.ref C)) (M : MethAt K C "__eq__" "Streams.__eq__" sStreams___eq__ ["self", "other"] f fd) : FnOk P w K mg base CX0 1 f fd ["self", "other"] (spEqP K C) := by
  refine M.F.ok scStreams___eq__ (fun vs H Q E h => ?_) (fun cdv A outer s H vs Q E hr h => ?_)
  · obtain ⟨a, b, ps, qs, rs, ts, rfl, _⟩ := h
    rfl
  · obtain ⟨a, b, ps, qs, rs, ts, rfl, st, st2, gp, gq, gr, gt, k⟩ := h
    obtain ⟨dx, v, u, n, m, o, h1, h2, h3, _, _⟩ := st
    obtain ⟨dx', v', u', n', m', o', h1', h2', h3', _, _⟩ := st2
    have hu := hr.units
    refine ⟨_, (pss_one (ps_ret (pe_and (pe_callB (Z.k_is (K := K)) (by rfl) T.isinstance (by decide +kernel) (pa_cons (pv 1) (pa_cons (pe_glob (v := .ref C) (by rfl) gStreams rfl) pa_nil))) (pe_and (pe_cmpR (Z.k_eq (K := K) hu) (pe_fld (pv 0) rfl) (pe_fld (pv 1) rfl) (nomark _)) (pe_one (pe_cmpR (Z.k_eq (K := K) hu) (pe_fld (pv 0) rfl) (pe_fld (pv 1) rfl) (nomark _))))))), ?_⟩
    walk_at "st"
    refine is_own IC SC.cl h1' ?_
    refine s_bl (P := _) ?_
    refine iteT ?_
    walk_at "st"
    with_reducible refine s_fld ?_
    walk_at "st"
    refine ⟨a, C, dx, _, _, rfl, h1, SC.cl, SC.n1, sF_1 _ _ _ _, ?_⟩
    with_reducible refine s_fld ?_
    walk_at "st"
    refine ⟨b, C, dx', _, _, rfl, h1', SC.cl, SC.n1, sF_1 _ _ _ _, ?_⟩
    refine eq_parts h2 h2' gp gr ?_
    refine s_bl (P := _) ?_
    by_cases c : ps = rs
    · rw [decide_eq_true c]
      refine iteT ?_
      walk_at "st"
      with_reducible refine s_fld ?_
      walk_at "st"
      refine ⟨a, C, dx, _, _, rfl, h1, SC.cl, SC.n2, sF_2 _ _ _ _, ?_⟩
      with_reducible refine s_fld ?_
      walk_at "st"
      refine ⟨b, C, dx', _, _, rfl, h1', SC.cl, SC.n2, sF_2 _ _ _ _, ?_⟩
      refine eq_parts h3 h3' gq gt ?_
      have e : decide (ps = rs ∧ qs = ts) = decide (qs = ts) := by
        by_cases d : qs = ts
        · rw [decide_eq_true d, decide_eq_true ⟨c, d⟩]
        · rw [decide_eq_false d, decide_eq_false fun z => d z.2]
      rw [e] at k
      exact k
    · rw [decide_eq_false c]
      refine iteF ?_
      rw [decide_eq_false fun z => c z.1] at k
      exact k
end
end Z
local macro_rules | `(tactic| walk_at "st") => `(tactic| repeat (first
  | ((with_reducible refine' Z.s_var ?h ?_); (case h => exact rfl))
  | with_reducible refine Z.s_c ?_
  | with_reducible refine Z.s_op ?_
  | with_reducible refine Z.s_un ?_
  | with_reducible refine Z.s_nil ?_
  | with_reducible refine Z.s_cons ?_
  | with_reducible refine Z.s_cb ?_
  | with_reducible refine Z.s_call ?_
  | with_reducible refine Z.s_tup ?_
  | with_reducible refine Z.s_lst ?_
  | with_reducible refine Z.s_test ?_
  | with_reducible refine Z.s_B ?_
  | with_reducible refine Z.s_and ?_
  | with_reducible refine Z.s_or ?_
  | with_reducible refine Z.s_not ?_
  | with_reducible refine Z.s_andV ?_
  | with_reducible refine Z.s_orV ?_
  | with_reducible refine Z.s_notV ?_
  | with_reducible refine Z.s_if ?_
  | with_reducible refine Z.s_chain ?_
  | with_reducible refine Z.s_seq ?_
  | with_reducible refine Z.s_next ?_
  | with_reducible refine Z.s_drop ?_
  | with_reducible refine Z.s_ret ?_
  | with_reducible refine Z.s_ifS ?_
  | with_reducible refine Z.s_asg ?_
  | with_reducible refine Z.s_name ?_
  | with_reducible refine Z.s_par ?_
  | with_reducible refine Z.s_item ?_
  | with_reducible refine Z.s_part ?_
  | with_reducible refine Z.s_noPart ?_
  | with_reducible refine Z.s_cut ?_
  | with_reducible refine Z.s_bm0 ?_
  | with_reducible refine Z.s_bm ?_
  | with_reducible refine Z.s_bl (P := _) ?_
  | with_reducible refine Z.s_two (P := _) ?_
  | with_reducible refine Z.s_int (P := _) ?_
  | with_reducible refine Z.a_addI ?_
  | with_reducible refine Z.a_subI ?_
  | with_reducible refine Z.a_ltI ?_
  | with_reducible refine Z.a_leI ?_
  | with_reducible refine Z.a_gtI ?_
  | with_reducible refine Z.a_geI ?_
  | with_reducible refine Z.a_eqI ?_
  | with_reducible refine Z.a_neI ?_
  | with_reducible refine Z.a_eqS ?_
  | with_reducible refine Z.a_neS ?_
  | with_reducible refine Z.a_eqB ?_
  | with_reducible refine Z.a_neB ?_
  | with_reducible refine Z.a_isN ?_
  | with_reducible refine Z.a_notN ?_
  | with_reducible refine Z.a_setL ?_
  | with_reducible refine Z.a_int ?_
  | with_reducible refine Z.a_intB ?_
  | with_reducible refine Z.a_abs ?_
  | with_reducible refine Z.a_max ?_
  | with_reducible refine Z.a_min ?_
  | with_reducible refine Z.s_lc ?_
  | with_reducible refine Z.s_for ?_
  | with_reducible refine Z.s_iList ?_
  | with_reducible refine Z.s_iTup ?_
  | with_reducible refine Z.s_iStr ?_
  | with_reducible refine Z.s_rng1 ?_
  | with_reducible refine Z.s_rng2 ?_
  | with_reducible refine Z.s_gtup ?_
  | with_reducible refine Z.s_gcons ?_
  | with_reducible refine Z.s_gnil ?_
  | with_reducible refine Z.s_yes ?_
  | with_reducible refine Z.s_ref (P := _) ?_
  | with_reducible refine Z.s_str (P := _) ?_
  | with_reducible refine Z.s_one (P := _) ?_
  | with_reducible refine Z.s_m1 ?_
  | with_reducible refine Z.s_m0 ?_
  | with_reducible refine Z.s_isStr ?_))
namespace Z
open PySem PySem.Spec PyProof.Rows L2 G
section
variable {P : Program} {w : World} {K : PySem.W.Frag} {mg : Str → Option Value} {base : Heap}
/-- name:signs -/
def tellP (p : Str × Str) : Str := Str.empty ++ p.1 ++ Str.ofString ":" ++ p.2
theorem small_pair {p : Str × Str} (h : nameB p.1 = true ∧ signsB p.2 = true) : p.1.length ≤ 8 ∧ p.2.length ≤ 4 := by
  obtain ⟨n, s⟩ := h
  unfold nameB at n
  unfold signsB at s
  rw [Bool.and_eq_true] at n s
  exact ⟨(wordB_len n.1).2.1, (wordB_len s.1).2.1⟩
theorem tell_len {p : Str × Str} (h : nameB p.1 = true ∧ signsB p.2 = true) : (tellP p).length ≤ 13 := by
  obtain ⟨a, b⟩ := small_pair h
  unfold tellP
  rw [strLen_append, strLen_append, strLen_append]
  have z1 : (Str.empty).length = 0 := rfl
  have z2 : (Str.ofString ":").length = 1 := by decide +kernel
  omega
theorem fmt_str {σ : L2.St} {H : Hp} {Q : VK} {i : Nat} {z : Str} (h : σ[i]? = some (some (.str z))) (l : z.length ≤ 1000) (q : Q (.str z) H) : tFmt (tVar i) σ H Q := ⟨_, h, .inl ⟨z, rfl, by rw [sizeLine_eq]; omega, q⟩⟩
/-- [f'{name}:{signs}' for name, signs in pairs] -/
theorem comp_told {σ : L2.St} {vs : List Nat} {i j : Nat} {p : Addr} {xs : List V} {ps : List (Str × Str)} {H : Hp} {Q : VK} (hx : SqT K H p xs) (hd : DzAll K H xs (ps.map prD)) (good : GoodP ps) (few : ps.length ≤ 1000)
    (hw : ∀ x y, wipe (((wipe σ vs).set i (some x)).set j (some y)) vs = wipe σ vs) (hi : ∀ x y, (((wipe σ vs).set i (some x)).set j (some y))[i]? = some (some x)) (hj : ∀ x y, (((wipe σ vs).set i (some x)).set j (some y))[j]? = some (some y))
    (done : ∀ L H2, H L = none → Same H H2 → H2 L = some (.lst (oneOf (ps.map tellP))) → Q (.ref L) H2) :
    CompOk (Itt K p) (gTup K 2 (gCons (gName i) (gCons (gName j) gNil))) tYes (fun σ H Q => tJs [tFmt (tVar i), tC (.str (Str.ofString ":")), tFmt (tVar j)] Str.empty σ H fun out H1 => Q (.str out) H1) vs σ H Q := by
  have many : xs.length = ps.length := by
    rw [hd.len, List.length_map]
  refine comp (walkT (xs := xs)) (Same H) (fun n acc H2 => acc = oneOf ((ps.take n).map tellP)) (Same.refl H) (fun L o H2 e m => same_upd m e) (fun _ _ _ _ _ _ _ h => h) rfl (fun n acc H2 m _ => same_sqt m hx) ?_ ?_
  · rintro L n acc x H2 fresh hn hxi len m at_ rfl
    have ln : n < ps.length := by omega
    obtain ⟨d, hdi, dz⟩ := hd.get hxi
    rw [List.getElem?_map, List.getElem?_eq_getElem ln] at hdi
    have ed : d = prD ps[n] := (Option.some.inj hdi).symm
    rw [ed] at dz
    have gp := good ps[n] (List.getElem_mem ln)
    obtain ⟨l1, l2⟩ := small_pair gp
    cases dz with
    | tup s e =>
      cases e with
      | cons e1 e =>
        cases e with
        | cons e2 e =>
          cases e
          cases e1
          cases e2
          have tl := tell_len gp
          refine ⟨_, [.str ps[n].1, .str ps[n].2], rfl, same_sqt m s, rfl, ?_⟩
          refine s_gcons (s_name (s_gcons (s_name (s_gnil ?_))))
          refine ⟨hw _ _, s_yes (iteT ?_)⟩
          refine fmt_str (hi _ _) (by omega) ⟨_, rfl, ?_, ?_⟩
          · rw [strLen_append, sizeLine_eq]
            have z1 : (Str.empty).length = 0 := rfl
            omega
          refine ⟨_, rfl, ?_, ?_⟩
          · rw [strLen_append, strLen_append, sizeLine_eq]
            have z1 : (Str.empty).length = 0 := rfl
            have z2 : (Str.ofString ":").length = 1 := by decide +kernel
            omega
          refine fmt_str (hj _ _) (by omega) ⟨_, rfl, ?_, ?_⟩
          · show (tellP ps[n]).length ≤ _
            rw [sizeLine_eq]
            omega
          show Put _ _ _ _ (.str (tellP ps[n])) _
          refine put fresh (fun L o H2 e m => same_upd m e) (fun _ _ _ _ _ _ _ h => h) at_ (by omega) len m ?_
          rw [List.take_add_one, List.getElem?_eq_getElem ln, List.map_append]
          unfold oneOf
          rw [List.map_append]
          rfl
  · rintro L acc H2 fresh len m at_ rfl
    rw [many, List.take_length] at at_
    exact done L H2 fresh m at_
/-- the words that tell streams -/
def toldW (ps qs : List (Str × Str)) : List Str := ps.map tellP ++ [Str.ofString ">"] ++ qs.map tellP
def spTold (K : PySem.W.Frag) : Sp := fun vs H Q _ => ∃ v u ps qs, vs = [v, u] ∧ Dz K H v (.tuple (ps.map prD)) ∧ Dz K H u (.tuple (qs.map prD)) ∧ GoodP ps ∧ GoodP qs ∧ ps.length ≤ 3 ∧ qs.length ≤ 3 ∧ ∀ H1 L, Same H H1 → H1 L = some (.lst (oneOf (toldW ps qs))) → Q (.ref L) H1
abbrev s_told : Stmt := topS 19
theorem sc_told : FnScope ["sources", "sinks", "words", "name", "signs"] ["sources", "sinks"] (defScope s_told) := ⟨rfl, rfl, rfl, by decide +kernel, rfl, by decide +kernel, by decide +kernel⟩
theorem ok_told {f : Addr} {fd : FuncData} (D : Def K mg "_told" s_told ["sources", "sinks"] f fd) : FnOk P w K mg base CX0 1 f fd ["sources", "sinks"] (spTold K) := by
  refine D.F.ok sc_told (fun vs H Q E h => ?_) (fun cdv A outer s H vs Q E hr h => ?_)
  · obtain ⟨v, u, ps, qs, rfl, _⟩ := h
    rfl
  · obtain ⟨v, u, ps, qs, rfl, dz, dy, gp, gq, lp, lq, k⟩ := h
    obtain ⟨a, xs, rfl, ha, hx⟩ := dz.tuple
    obtain ⟨b, ys, rfl, hb, hy⟩ := dy.tuple
    refine ⟨_, (pss_cons (ps_setLc (i := 2) (own := [("name", 3), ("signs", 4)]) (by rfl) sc_told.nd rfl rfl (sw_true rfl rfl rfl (by decide +kernel)) (pi_tup (pv 0)) (blkOk_by (own := [("name", 3), ("signs", 4)]) (N := ["sources", "sinks", "words", "name", "signs"]) (sc := defScope s_told) (by decide +kernel))
   (fun _ _ _ _ _ => (Z.k_tup (K := K) (n := 2) rfl (pgs_cons (pg_name (i := 3) sc_told.nd rfl (by first | exact Or.inl rfl | exact Or.inr rfl)) (pgs_cons (pg_name (i := 4) sc_told.nd rfl (by first | exact Or.inl rfl | exact Or.inr rfl)) pgs_nil)))) (fun _ _ _ _ _ => pts_nil) (fun _ _ _ _ _ => (pe_joined (.cons (pe_fmt (pv 3)) (.cons pe_str (.cons (pe_fmt (pv 4)) .nil))))))
 (pss_cons (ps_expr (Z.k_bm (K := K) PySem.F.plainAttrs_list PySem.F.slot_list_append PySem.F.type_list_append mt_append (pv 2) (pa_cons pe_str pa_nil)))
 (pss_cons (ps_expr (Z.k_bm (K := K) PySem.F.plainAttrs_list PySem.F.slot_list_extend PySem.F.type_list_extend mt_extend (pv 2) (pa_cons (pe_lc (own := [("name", 3), ("signs", 4)]) (by rfl) sc_told.nd (pi_tup (pv 1)) (blkOk_by (own := [("name", 3), ("signs", 4)]) (N := ["sources", "sinks", "words", "name", "signs"]) (sc := defScope s_told) (by decide +kernel))
   (fun _ _ _ _ _ => (Z.k_tup (K := K) (n := 2) rfl (pgs_cons (pg_name (i := 3) sc_told.nd rfl (by first | exact Or.inl rfl | exact Or.inr rfl)) (pgs_cons (pg_name (i := 4) sc_told.nd rfl (by first | exact Or.inl rfl | exact Or.inr rfl)) pgs_nil)))) (fun _ _ _ _ _ => pts_nil) (fun _ _ _ _ _ => (pe_joined (.cons (pe_fmt (pv 3)) (.cons pe_str (.cons (pe_fmt (pv 4)) .nil)))))) pa_nil)))
 (pss_one (ps_ret (pv 2)))))), ?_⟩
    walk_at "st"
    refine ⟨⟨_, ha⟩, comp_told ha hx gp (by omega) (fun _ _ => rfl) (fun _ _ => rfl) (fun _ _ => rfl) ?_⟩
    intro L H1 fresh m1 hL
    walk_at "st"
    refine ⟨.inl ⟨rfl, _, SqL.of hL⟩, ?_⟩
    walk_at "st"
    refine ⟨L, _, _, rfl, rfl, hL, by rw [List.length_map, List.length_map, sizeLine_eq]; omega, ?_⟩
    generalize e2 : upd H1 L _ = H2
    have m2 : Same H H2 := by rw [← e2]; exact same_upd m1 fresh
    have h2 : H2 L = some (.lst (oneOf (ps.map tellP) ++ [.str (Str.ofString ">")])) := by rw [← e2]; exact upd_same
    walk_at "st"
    refine ⟨.inl ⟨rfl, _, SqL.of h2⟩, ?_⟩
    walk_at "st"
    refine ⟨⟨_, same_sqt m2 hb⟩, comp_told (same_sqt m2 hb) (DzAll.same m2 _ _ hy) gq (by omega) (fun _ _ => rfl) (fun _ _ => rfl) (fun _ _ => rfl) ?_⟩
    intro L2 H3 fresh2 m3 hL2
    walk_at "st"
    refine ⟨L, L2, _, _, rfl, rfl, m3 _ _ h2, hL2, ?_, ?_⟩
    · simp only [List.length_append, List.length_map, List.length_singleton, sizeLine_eq]
      omega
    walk_at "st"
    refine k _ L (same_upd (m2.trans m3) fresh) ?_
    rw [upd_same]
    unfold toldW oneOf
    rw [List.map_append, List.map_append]
    rfl
end
end Z
local macro_rules | `(tactic| walk_at "st") => `(tactic| repeat (first
  | ((with_reducible refine' Z.s_var ?h ?_); (case h => exact rfl))
  | with_reducible refine Z.s_c ?_
  | with_reducible refine Z.s_op ?_
  | with_reducible refine Z.s_un ?_
  | with_reducible refine Z.s_nil ?_
  | with_reducible refine Z.s_cons ?_
  | with_reducible refine Z.s_cb ?_
  | with_reducible refine Z.s_call ?_
  | with_reducible refine Z.s_tup ?_
  | with_reducible refine Z.s_lst ?_
  | with_reducible refine Z.s_test ?_
  | with_reducible refine Z.s_B ?_
  | with_reducible refine Z.s_and ?_
  | with_reducible refine Z.s_or ?_
  | with_reducible refine Z.s_not ?_
  | with_reducible refine Z.s_andV ?_
  | with_reducible refine Z.s_orV ?_
  | with_reducible refine Z.s_notV ?_
  | with_reducible refine Z.s_if ?_
  | with_reducible refine Z.s_chain ?_
  | with_reducible refine Z.s_seq ?_
  | with_reducible refine Z.s_next ?_
  | with_reducible refine Z.s_drop ?_
  | with_reducible refine Z.s_ret ?_
  | with_reducible refine Z.s_ifS ?_
  | with_reducible refine Z.s_asg ?_
  | with_reducible refine Z.s_name ?_
  | with_reducible refine Z.s_par ?_
  | with_reducible refine Z.s_item ?_
  | with_reducible refine Z.s_part ?_
  | with_reducible refine Z.s_noPart ?_
  | with_reducible refine Z.s_cut ?_
  | with_reducible refine Z.s_bm0 ?_
  | with_reducible refine Z.s_bm ?_
  | with_reducible refine Z.s_bl (P := _) ?_
  | with_reducible refine Z.s_two (P := _) ?_
  | with_reducible refine Z.s_int (P := _) ?_
  | with_reducible refine Z.a_addI ?_
  | with_reducible refine Z.a_subI ?_
  | with_reducible refine Z.a_ltI ?_
  | with_reducible refine Z.a_leI ?_
  | with_reducible refine Z.a_gtI ?_
  | with_reducible refine Z.a_geI ?_
  | with_reducible refine Z.a_eqI ?_
  | with_reducible refine Z.a_neI ?_
  | with_reducible refine Z.a_eqS ?_
  | with_reducible refine Z.a_neS ?_
  | with_reducible refine Z.a_eqB ?_
  | with_reducible refine Z.a_neB ?_
  | with_reducible refine Z.a_isN ?_
  | with_reducible refine Z.a_notN ?_
  | with_reducible refine Z.a_setL ?_
  | with_reducible refine Z.a_int ?_
  | with_reducible refine Z.a_intB ?_
  | with_reducible refine Z.a_abs ?_
  | with_reducible refine Z.a_max ?_
  | with_reducible refine Z.a_min ?_
  | with_reducible refine Z.s_lc ?_
  | with_reducible refine Z.s_for ?_
  | with_reducible refine Z.s_iList ?_
  | with_reducible refine Z.s_iTup ?_
  | with_reducible refine Z.s_iStr ?_
  | with_reducible refine Z.s_rng1 ?_
  | with_reducible refine Z.s_rng2 ?_
  | with_reducible refine Z.s_gtup ?_
  | with_reducible refine Z.s_gcons ?_
  | with_reducible refine Z.s_gnil ?_
  | with_reducible refine Z.s_yes ?_
  | with_reducible refine Z.s_ref (P := _) ?_
  | with_reducible refine Z.s_str (P := _) ?_
  | with_reducible refine Z.s_one (P := _) ?_
  | with_reducible refine Z.s_m1 ?_
  | with_reducible refine Z.s_m0 ?_
  | with_reducible refine Z.s_isStr ?_))
namespace Z
open PySem PySem.Spec PyProof.Rows L2 G
section
variable {P : Program} {w : World} {K : PySem.W.Frag} {mg : Str → Option Value} {base : Heap}
theorem told_few {ps qs : List (Str × Str)} (gp : GoodP ps) (gq : GoodP qs) : ∀ z ∈ toldW ps qs, z.length ≤ 13 := by
  intro z hz
  unfold toldW at hz
  rcases List.mem_append.mp hz with hz | hz
  · rcases List.mem_append.mp hz with hz | hz
    · obtain ⟨p, hp, rfl⟩ := List.mem_map.mp hz
      exact tell_len (gp p hp)
    · rw [List.mem_singleton.mp hz]
      decide +kernel
  · obtain ⟨p, hp, rfl⟩ := List.mem_map.mp hz
    exact tell_len (gq p hp)
theorem sum_few : ∀ {zs : List Str}, (∀ z ∈ zs, z.length ≤ 13) → (zs.map (·.length)).sum ≤ zs.length * 13
  | [], _ => Nat.le_refl 0
  | z :: zs, h => by
    have a := h z List.mem_cons_self
    have b := sum_few fun y hy => h y (List.mem_cons_of_mem _ hy)
    rw [List.map_cons, List.sum_cons, List.length_cons]
    omega
/-- str(streams) -/
def spStrS (K : PySem.W.Frag) (C : Addr) : Sp := fun vs H Q _ => ∃ a ps qs, vs = [.ref a] ∧ StAt K C H a ps qs ∧ GoodP ps ∧ GoodP qs ∧ ps.length ≤ 3 ∧ qs.length ≤ 3 ∧ ∀ H1, Same H H1 → Q (.str (Txt.join (Str.ofString " ") (toldW ps qs))) H1
abbrev sStreams___str__ : Stmt := inClass (topS 20) 19
theorem scStreams___str__ : FnScope ["self"] ["self"] (defScope sStreams___str__) := ⟨rfl, rfl, rfl, by decide +kernel, rfl, by decide +kernel, by decide +kernel⟩
theorem ok_str {f C ft : Addr} {fd fdt : FuncData} (T : Txt2 mg) (SC : StrmC K C) (M : MethAt K C "__str__" "Streams.__str__" sStreams___str__ ["self"] f fd) (D_told : Def K mg "_told" s_told ["sources", "sinks"] ft fdt) : FnOk P w K mg base CX0 2 f fd ["self"] (spStrS K C) := by
  have G_told : FnOk P w K mg base CX0 1 ft fdt ["sources", "sinks"] (spTold K) := ok_told D_told
  refine M.F.ok scStreams___str__ (fun vs H Q E h => ?_) (fun cdv A outer s H vs Q E hr h => ?_)
  · obtain ⟨a, ps, qs, rfl, _⟩ := h
    rfl
  · obtain ⟨a, ps, qs, rfl, ⟨dx, v, u, n, m, o, h1, h2, h3, _, _⟩, gp, gq, lp, lq, k⟩ := h
    refine ⟨_, (pss_one (ps_ret (Z.k_join (K := K) pe_str (pe_call G_told (hr.mono (by decide)) (by rfl) D_told.g D_told.F.kp D_told.b .nil pass0 (pa_cons (pe_fld (pv 0) rfl) (pa_cons (pe_fld (pv 0) rfl) pa_nil)))))), ?_⟩
    walk_at "st"
    with_reducible refine s_fld ?_
    walk_at "st"
    refine ⟨a, C, dx, _, _, rfl, h1, SC.cl, SC.n1, sF_1 _ _ _ _, ?_⟩
    walk_at "st"
    with_reducible refine s_fld ?_
    walk_at "st"
    refine ⟨a, C, dx, _, _, rfl, h1, SC.cl, SC.n2, sF_2 _ _ _ _, ?_⟩
    walk_at "st"
    refine ⟨v, u, ps, qs, rfl, h2, h3, gp, gq, lp, lq, fun H1 L s1 hL => ?_⟩
    refine ⟨toldW ps qs, .inl (SqL.of hL), ?_, k H1 s1⟩
    have a1 := sum_few (told_few gp gq)
    have a2 : (toldW ps qs).length ≤ 7 := by
      unfold toldW
      simp only [List.length_append, List.length_map, List.length_singleton]
      omega
    have a3 : (Str.ofString " ").length = 1 := by decide +kernel
    rw [a3]
    omega
abbrev sStreams_names : Stmt := inClass (topS 20) 3
theorem scStreams_names : FnScope ["self"] ["self"] (defScope sStreams_names) := ⟨rfl, rfl, rfl, by decide +kernel, rfl, by decide +kernel, by decide +kernel⟩
theorem ok_getn {f C : Addr} {fd : FuncData} (SC : StrmC K C) (F : Fun K "names" "Streams.names" sStreams_names f fd) : FnOk P w K mg base CX0 1 f fd ["self"] (getSp C "_names") := by
  refine F.ok scStreams_names (fun vs H Q E h => ?_) (fun cdv A outer s H vs Q E hr h => ?_)
  · obtain ⟨a, dx, fs, v, rfl, _⟩ := h
    rfl
  · obtain ⟨a, dx, fs, v, rfl, ea, l, q⟩ := h
    exact ⟨_, (pss_one (ps_ret (pe_fld (pv 0) rfl))), ⟨.ref a, rfl, a, C, dx, fs, v, rfl, ea, SC.cl, SC.n3, l, q⟩⟩
end
end Z
local macro_rules | `(tactic| walk_at "st") => `(tactic| repeat (first
  | ((with_reducible refine' Z.s_var ?h ?_); (case h => exact rfl))
  | with_reducible refine Z.s_c ?_
  | with_reducible refine Z.s_op ?_
  | with_reducible refine Z.s_un ?_
  | with_reducible refine Z.s_nil ?_
  | with_reducible refine Z.s_cons ?_
  | with_reducible refine Z.s_cb ?_
  | with_reducible refine Z.s_call ?_
  | with_reducible refine Z.s_tup ?_
  | with_reducible refine Z.s_lst ?_
  | with_reducible refine Z.s_test ?_
  | with_reducible refine Z.s_B ?_
  | with_reducible refine Z.s_and ?_
  | with_reducible refine Z.s_or ?_
  | with_reducible refine Z.s_not ?_
  | with_reducible refine Z.s_andV ?_
  | with_reducible refine Z.s_orV ?_
  | with_reducible refine Z.s_notV ?_
  | with_reducible refine Z.s_if ?_
  | with_reducible refine Z.s_chain ?_
  | with_reducible refine Z.s_seq ?_
  | with_reducible refine Z.s_next ?_
  | with_reducible refine Z.s_drop ?_
  | with_reducible refine Z.s_ret ?_
  | with_reducible refine Z.s_ifS ?_
  | with_reducible refine Z.s_asg ?_
  | with_reducible refine Z.s_name ?_
  | with_reducible refine Z.s_par ?_
  | with_reducible refine Z.s_item ?_
  | with_reducible refine Z.s_part ?_
  | with_reducible refine Z.s_noPart ?_
  | with_reducible refine Z.s_cut ?_
  | with_reducible refine Z.s_bm0 ?_
  | with_reducible refine Z.s_bm ?_
  | with_reducible refine Z.s_bl (P := _) ?_
  | with_reducible refine Z.s_two (P := _) ?_
  | with_reducible refine Z.s_int (P := _) ?_
  | with_reducible refine Z.a_addI ?_
  | with_reducible refine Z.a_subI ?_
  | with_reducible refine Z.a_ltI ?_
  | with_reducible refine Z.a_leI ?_
  | with_reducible refine Z.a_gtI ?_
  | with_reducible refine Z.a_geI ?_
  | with_reducible refine Z.a_eqI ?_
  | with_reducible refine Z.a_neI ?_
  | with_reducible refine Z.a_eqS ?_
  | with_reducible refine Z.a_neS ?_
  | with_reducible refine Z.a_eqB ?_
  | with_reducible refine Z.a_neB ?_
  | with_reducible refine Z.a_isN ?_
  | with_reducible refine Z.a_notN ?_
  | with_reducible refine Z.a_setL ?_
  | with_reducible refine Z.a_int ?_
  | with_reducible refine Z.a_intB ?_
  | with_reducible refine Z.a_abs ?_
  | with_reducible refine Z.a_max ?_
  | with_reducible refine Z.a_min ?_
  | with_reducible refine Z.s_lc ?_
  | with_reducible refine Z.s_for ?_
  | with_reducible refine Z.s_iList ?_
  | with_reducible refine Z.s_iTup ?_
  | with_reducible refine Z.s_iStr ?_
  | with_reducible refine Z.s_rng1 ?_
  | with_reducible refine Z.s_rng2 ?_
  | with_reducible refine Z.s_gtup ?_
  | with_reducible refine Z.s_gcons ?_
  | with_reducible refine Z.s_gnil ?_
  | with_reducible refine Z.s_yes ?_
  | with_reducible refine Z.s_ref (P := _) ?_
  | with_reducible refine Z.s_str (P := _) ?_
  | with_reducible refine Z.s_one (P := _) ?_
  | with_reducible refine Z.s_m1 ?_
  | with_reducible refine Z.s_m0 ?_
  | with_reducible refine Z.s_isStr ?_))
namespace Z
open PySem PySem.Spec PyProof.Rows L2 G
section
variable {P : Program} {w : World} {K : PySem.W.Frag} {mg : Str → Option Value} {base : Heap}
/-- a word of these signs -/
def wordD (g : Str) : PyData → Bool
  | .str z => z.cps.toList.all fun c => decide (c ∈ g.cps.toList)
  | _ => false
theorem wordD_no {g : Str} {d : PyData} (h : ∀ z, d ≠ .str z) : wordD g d = false := by
  cases d with
  | str z => exact absurd rfl (h z)
  | _ => rfl
def spWordD (K : PySem.W.Frag) : Sp := fun vs H Q _ => ∃ g v d, vs = [.str g, v] ∧ Dz K H v d ∧ (∀ z, d = .str z → z.length ≤ 900000) ∧ ∀ H1, Same H H1 → Q (.bl (wordD g d)) H1
abbrev sis_word : Stmt := topS 13
theorem scis_word : FnScope ["signs", "value", "sign"] ["signs", "value"] (defScope sis_word) := ⟨rfl, rfl, rfl, by decide +kernel, rfl, by decide +kernel, by decide +kernel⟩
theorem ok_is_word {f : Addr} {fd : FuncData} (T : Txt2 mg) (D : Def K mg "is_word" sis_word ["signs", "value"] f fd) : FnOk P w K mg base CX0 1 f fd ["signs", "value"] (spWordD K) := by
  refine D.F.ok scis_word (fun vs H Q E h => ?_) (fun cdv A outer s H vs Q E hr h => ?_)
  · obtain ⟨g, v, d, rfl, _⟩ := h
    rfl
  · obtain ⟨g, v, d, rfl, dz, small, k⟩ := h
    refine ⟨_, (pss_one (ps_ret (pe_and (pe_callB (Z.k_is (K := K)) (by rfl) T.isinstance (by decide +kernel) (pa_cons (pv 1) (pa_cons (pe_bltn (v := .ty "str") (by rfl) T.str (by decide +kernel) rfl) pa_nil))) (pe_one (pe_callB (Z.k_all (K := K) rfl) (by rfl) T.all (by decide +kernel) (pa_cons (pe_lc (own := [("sign", 2)]) (by rfl) scis_word.nd (pi_str (pv 1)) (blkOk_by (own := [("sign", 2)]) (N := ["signs", "value", "sign"]) (sc := defScope sis_word) (by decide +kernel))
   (fun _ _ _ _ _ => (pg_name (i := 2) scis_word.nd rfl (by first | exact Or.inl rfl | exact Or.inr rfl))) (fun _ _ _ _ _ => pts_nil) (fun _ _ _ _ _ => (pe_cmpR op_in_sign (pv 2) (pv 0) (by rfl)))) pa_nil)))))), ?_⟩
    walk_at "st"
    refine is_str dz ?_ (fun no => ?_)
    · rintro z rfl rfl
      have zl : z.cps.size ≤ 900000 := small z rfl
      refine s_bl (P := _) ?_
      refine iteT ?_
      walk_at "st"
      refine comp walkS (Same H) (fun i acc H2 => acc = (z.cps.toList.take i).map fun c => V.bl (decide (c ∈ g.cps.toList))) (Same.refl H) (fun L o H2 e m => same_upd m e) (fun _ _ _ _ _ _ _ h => h) rfl (fun _ _ _ _ _ => trivial) ?_ ?_
      · rintro L i acc x H2 fresh hi ⟨c, hc, rfl⟩ len m at_ rfl
        refine turn1 rfl ?_
        walk_at "st"
        refine ⟨c, g, rfl, rfl, ?_⟩
        refine put fresh (fun L o H2 e m => same_upd m e) (fun _ _ _ _ _ _ _ h => h) at_ (by omega) len m ?_
        rw [take_sign hc, List.map_append]
        rfl
      · rintro L acc H2 fresh len m at_ rfl
        rw [full_signs] at at_
        walk_at "st"
        refine ⟨z.cps.toList.map fun c => decide (c ∈ g.cps.toList), SqL.of ?_, ?_⟩
        · rw [List.map_map]
          exact at_
        · rw [List.all_map]
          exact k H2 m
    · refine s_bl (P := _) ?_
      refine iteF ?_
      rw [← wordD_no no]
      exact k H (Same.refl H)
end
end Z
local macro_rules | `(tactic| walk_at "st") => `(tactic| repeat (first
  | ((with_reducible refine' Z.s_var ?h ?_); (case h => exact rfl))
  | with_reducible refine Z.s_c ?_
  | with_reducible refine Z.s_op ?_
  | with_reducible refine Z.s_un ?_
  | with_reducible refine Z.s_nil ?_
  | with_reducible refine Z.s_cons ?_
  | with_reducible refine Z.s_cb ?_
  | with_reducible refine Z.s_call ?_
  | with_reducible refine Z.s_tup ?_
  | with_reducible refine Z.s_lst ?_
  | with_reducible refine Z.s_test ?_
  | with_reducible refine Z.s_B ?_
  | with_reducible refine Z.s_and ?_
  | with_reducible refine Z.s_or ?_
  | with_reducible refine Z.s_not ?_
  | with_reducible refine Z.s_andV ?_
  | with_reducible refine Z.s_orV ?_
  | with_reducible refine Z.s_notV ?_
  | with_reducible refine Z.s_if ?_
  | with_reducible refine Z.s_chain ?_
  | with_reducible refine Z.s_seq ?_
  | with_reducible refine Z.s_next ?_
  | with_reducible refine Z.s_drop ?_
  | with_reducible refine Z.s_ret ?_
  | with_reducible refine Z.s_ifS ?_
  | with_reducible refine Z.s_asg ?_
  | with_reducible refine Z.s_name ?_
  | with_reducible refine Z.s_par ?_
  | with_reducible refine Z.s_item ?_
  | with_reducible refine Z.s_part ?_
  | with_reducible refine Z.s_noPart ?_
  | with_reducible refine Z.s_cut ?_
  | with_reducible refine Z.s_bm0 ?_
  | with_reducible refine Z.s_bm ?_
  | with_reducible refine Z.s_bl (P := _) ?_
  | with_reducible refine Z.s_two (P := _) ?_
  | with_reducible refine Z.s_int (P := _) ?_
  | with_reducible refine Z.a_addI ?_
  | with_reducible refine Z.a_subI ?_
  | with_reducible refine Z.a_ltI ?_
  | with_reducible refine Z.a_leI ?_
  | with_reducible refine Z.a_gtI ?_
  | with_reducible refine Z.a_geI ?_
  | with_reducible refine Z.a_eqI ?_
  | with_reducible refine Z.a_neI ?_
  | with_reducible refine Z.a_eqS ?_
  | with_reducible refine Z.a_neS ?_
  | with_reducible refine Z.a_eqB ?_
  | with_reducible refine Z.a_neB ?_
  | with_reducible refine Z.a_isN ?_
  | with_reducible refine Z.a_notN ?_
  | with_reducible refine Z.a_setL ?_
  | with_reducible refine Z.a_int ?_
  | with_reducible refine Z.a_intB ?_
  | with_reducible refine Z.a_abs ?_
  | with_reducible refine Z.a_max ?_
  | with_reducible refine Z.a_min ?_
  | with_reducible refine Z.s_lc ?_
  | with_reducible refine Z.s_for ?_
  | with_reducible refine Z.s_iList ?_
  | with_reducible refine Z.s_iTup ?_
  | with_reducible refine Z.s_iStr ?_
  | with_reducible refine Z.s_rng1 ?_
  | with_reducible refine Z.s_rng2 ?_
  | with_reducible refine Z.s_gtup ?_
  | with_reducible refine Z.s_gcons ?_
  | with_reducible refine Z.s_gnil ?_
  | with_reducible refine Z.s_yes ?_
  | with_reducible refine Z.s_ref (P := _) ?_
  | with_reducible refine Z.s_str (P := _) ?_
  | with_reducible refine Z.s_one (P := _) ?_
  | with_reducible refine Z.s_m1 ?_
  | with_reducible refine Z.s_m0 ?_
  | with_reducible refine Z.s_isStr ?_))
namespace Z
open PySem PySem.Spec PyProof.Rows L2 G RZ
section
variable {P : Program} {w : World} {K : PySem.W.Frag} {mg : Str → Option Value} {base : Heap}
theorem k_zipT {X : Cx} {e e2 : Expr} {ta : TA} {p pos tpos : Pos} {elts : List Expr} {kk : Nat} (hg : Gl X "zip") (hm : X.mg "zip" = none) (ha : PA X [e, e2] ta) (h : X.K = K := by rfl)
    (st : starEach [e, e2] X.env = (false, eval e X.env) :: starEach [e2] X.env := by rfl) (pl : (backTo pos (starEach [e2] X.env)).any (·.1) = false := by rfl) : PI X (.Tuple elts kk tpos) (.Call (.Name "zip" p) [e, e2] [] pos) (iZipA K ta) := by
  subst h
  exact pi_zipA hg hm ha st pl
theorem s_zipA {σ : L2.St} {H : Hp} {ta : TA} {R : It → Hp → Prop} (q : ta σ H fun vs H1 => ∃ a b xs ys, vs = [.ref a, .ref b] ∧ ((SqL K H1 a xs ∧ SqL K H1 b ys ∧ R (Itz K a b) H1) ∨ (SqT K H1 a xs ∧ SqT K H1 b ys ∧ R (ItzT K a b) H1))) : iZipA K ta σ H R := q
theorem walkZT {a b : Addr} {xs ys : List V} (same : xs.length = ys.length) : Walk (ItzT K a b) xs.length (fun H => SqT K H a xs ∧ SqT K H b ys) (fun i H v H1 => ∃ T x y, v = .ref T ∧ H T = none ∧ H1 = upd H T (.tup [x, y]) ∧ xs[i]? = some x ∧ ys[i]? = some y) :=
  ⟨fun i H hi h => ⟨xs, ys, xs[i], ys[i], h.1, h.2, List.getElem?_eq_getElem hi, List.getElem?_eq_getElem _⟩, fun H h => ⟨xs, ys, h.1, h.2, .inl (Nat.le_refl _)⟩, fun i H v H1 hi h y => by
    obtain ⟨T, x, z, e1, e2, e3, e4, e5⟩ := y
    exact ⟨T, x, z, e1, e2, e3, e4 xs h.1, e5 ys h.2⟩⟩
/-- words for a kind -/
def zipW : List (Str × Str) → List PyData → List Bool
  | p :: ps, d :: ds => wordD p.2 d :: zipW ps ds
  | _, _ => []
theorem zipW_len : ∀ (ps : List (Str × Str)) (ds : List PyData), ps.length = ds.length → (zipW ps ds).length = ps.length
  | [], _, _ => rfl
  | p :: ps, d :: ds, h => congrArg (· + 1) (zipW_len ps ds (Nat.succ.inj h))
theorem zipW_at : ∀ {ps : List (Str × Str)} {ds : List PyData} {i : Nat} {p : Str × Str} {d : PyData}, ps[i]? = some p → ds[i]? = some d → (zipW ps ds)[i]? = some (wordD p.2 d)
  | p :: ps, d :: ds, 0, _, _, h, g => by
    have e1 := Option.some.inj h
    have e2 := Option.some.inj g
    subst e1 e2
    rfl
  | p :: ps, d :: ds, i + 1, _, _, h, g => zipW_at (ps := ps) (ds := ds) h g
def wordsD (ps : List (Str × Str)) : PyData → Bool
  | .tuple ds => decide (ds.length = ps.length) && (zipW ps ds).all id
  | _ => false
theorem wordsD_no {ps : List (Str × Str)} {d : PyData} (h : ∀ ds, d ≠ .tuple ds) : wordsD ps d = false := by
  cases d with
  | tuple z => exact absurd rfl (h z)
  | _ => rfl
def spWords (K : PySem.W.Frag) : Sp := fun vs H Q _ => ∃ v u ps d, vs = [v, u] ∧ Dz K H v (.tuple (ps.map prD)) ∧ Dz K H u d ∧ ps.length ≤ 3 ∧ (∀ ds z, d = .tuple ds → .str z ∈ ds → z.length ≤ 900000) ∧ ∀ H1, Same H H1 → Q (.bl (wordsD ps d)) H1
abbrev s_are_words : Stmt := topS 18
theorem sc_are_words : FnScope ["kind", "value", "pair", "word"] ["kind", "value"] (defScope s_are_words) := ⟨rfl, rfl, rfl, by decide +kernel, rfl, by decide +kernel, by decide +kernel⟩
theorem ok_are_words {f fw : Addr} {fd fdw : FuncData} (T : Txt2 mg) (D : Def K mg "_are_words" s_are_words ["kind", "value"] f fd) (Dis_word : Def K mg "is_word" sis_word ["signs", "value"] fw fdw) : FnOk P w K mg base CX0 2 f fd ["kind", "value"] (spWords K) := by
  have Gis_word : FnOk P w K mg base CX0 1 fw fdw ["signs", "value"] (spWordD K) := ok_is_word T Dis_word
  refine D.F.ok sc_are_words (fun vs H Q E h => ?_) (fun cdv A outer s H vs Q E hr h => ?_)
  · obtain ⟨v, u, ps, d, rfl, _⟩ := h
    rfl
  · obtain ⟨v, u, ps, d, rfl, dz, dy, lp, small, k⟩ := h
    have hu := hr.units
    obtain ⟨a, xs, rfl, ha, hx⟩ := dz.tuple
    have lx : xs.length = ps.length := by rw [hx.len, List.length_map]
    refine ⟨_, (pss_cons (ps_if (PW.pt (pw_or (pt_not (pt_val (pe_callB (Z.k_is (K := K)) (by rfl) T.isinstance (by decide +kernel) (pa_cons (pv 1) (pa_cons (pe_bltn (v := .ty "tuple") (by rfl) T.tuple (by decide +kernel) rfl) pa_nil))))) (pw_or1 (pt_cmpR (Z.k_ne (K := K) hu) (pe_callB (Z.k_len (K := K)) (by rfl) T.len (by decide +kernel) (pa_cons (pv 1) pa_nil)) (pe_callB (Z.k_len (K := K)) (by rfl) T.len (by decide +kernel) (pa_cons (pv 0) pa_nil)) (nomark _)))))
  (pss_one (ps_ret pe_bl))
  pss_nil)
 (pss_one (ps_ret (pe_callB (Z.k_all (K := K) rfl) (by rfl) T.all (by decide +kernel) (pa_cons (pe_lc (own := [("pair", 2), ("word", 3)]) (by rfl) sc_are_words.nd (Z.k_zipT (K := K) (by rfl) T.zip (pa_cons (pv 0) (pa_cons (pv 1) pa_nil))) (blkOk_by (own := [("pair", 2), ("word", 3)]) (N := ["kind", "value", "pair", "word"]) (sc := defScope s_are_words) (by decide +kernel))
   (fun _ _ _ _ _ => (Z.k_tup (K := K) (n := 2) rfl (pgs_cons (pg_name (i := 2) sc_are_words.nd rfl (by first | exact Or.inl rfl | exact Or.inr rfl)) (pgs_cons (pg_name (i := 3) sc_are_words.nd rfl (by first | exact Or.inl rfl | exact Or.inr rfl)) pgs_nil)))) (fun _ _ _ _ _ => pts_nil) (fun _ _ _ _ _ => (pe_call Gis_word (hr.mono (by decide)) (by rfl) Dis_word.g Dis_word.F.kp Dis_word.b .nil pass0 (pa_cons (pe_ix (Z.k_item (K := K)) (pv 2) pe_int (fun _ _ => rfl)) (pa_cons (pv 3) pa_nil))))) pa_nil))))), ?_⟩
    walk_at "st"
    refine is_tup dy ?_ (fun no => ?_)
    · rintro ds b ys rfl rfl hb hy
      have ly := hy.len
      walk_at "st"
      refine iteF ?_
      walk_at "st"
      refine len_tup hb hy ?_
      walk_at "st"
      refine len_tup ha hx ?_
      walk_at "st"
      rw [List.length_map]
      by_cases c : ds.length = ps.length
      · rw [decide_eq_true (show ((ds.length : Nat) : Int) = (ps.length : Nat) by omega)]
        refine iteF ?_
        walk_at "st"
        with_reducible refine s_zipA ?_
        walk_at "st"
        refine ⟨a, b, xs, ys, rfl, .inr ⟨ha, hb, ?_⟩⟩
        have e : wordsD ps (.tuple ds) = (zipW ps ds).all id := by
          show (_ && _) = _
          rw [decide_eq_true c]
          rfl
        rw [e] at k
        have zl := zipW_len ps ds c.symm
        intro L fresh
        refine lc_it (walkZT (K := K) (a := a) (b := b) (xs := xs) (ys := ys) (by omega)) (At (Same H) (fun i acc _ => acc = ((zipW ps ds).take i).map V.bl) L) ⟨[], same_upd (Same.refl H) fresh, upd_same, Nat.le_refl _, rfl⟩ ?_ ?_ ?_
        · rintro i H2 _ ⟨acc, m, _, _, _⟩
          exact ⟨same_sqt m ha, same_sqt m hb⟩
        · rintro i x H2 H3 hi ⟨acc, m, at_, len, rfl⟩ ⟨t, x1, y1, rfl, nt, rfl, hx1, hy1⟩
          obtain ⟨d1, hd1, dz1⟩ := hx.get hx1
          obtain ⟨d2, hd2, dz2⟩ := hy.get hy1
          have li : i < ps.length := by omega
          rw [List.getElem?_map, List.getElem?_eq_getElem li] at hd1
          have ed : d1 = prD ps[i] := (Option.some.inj hd1).symm
          rw [ed] at dz1
          have m3 := same_new (o := .tup [x1, y1]) m nt
          obtain ⟨p1, zs, rfl, hp1, hd⟩ := dz1.tuple
          cases hd with
          | cons q1 q =>
            cases q with
            | cons q2 q =>
              cases q
              cases q1
              cases q2
              refine ⟨t, [.ref p1, y1], rfl, SqT.of upd_same, rfl, ?_⟩
              walk_at "st"
              refine ⟨rfl, ?_⟩
              walk_at "st"
              refine iteT ?_
              walk_at "st"
              refine itemT (same_sqt m3 hp1) (by rfl) ?_
              walk_at "st"
              refine ⟨ps[i].2, y1, d2, rfl, Dz.same m3 _ _ dz2, fun z e2 => small ds z rfl (by rw [← e2]; exact List.mem_of_getElem? hd2), fun H4 m4 => ?_⟩
              have at3 : upd H2 t (.tup [.ref p1, y1]) L = some (.lst (((zipW ps ds).take i).map V.bl)) := by
                rw [upd_ne (ne_of_none at_ nt)]
                exact at_
              refine put fresh (fun L o H2 e m => same_upd m e) (fun _ _ _ _ _ _ _ h => h) (m4 _ _ at3) (by omega) len (m3.trans m4) ?_
              rw [List.take_add_one, zipW_at (List.getElem?_eq_getElem li) hd2, List.map_append]
              rfl
        · rintro H2 ⟨acc, m, at_, len, rfl⟩
          have full : (zipW ps ds).take xs.length = zipW ps ds := by
            rw [lx, ← zl, List.take_length]
          rw [full] at at_
          walk_at "st"
          exact ⟨zipW ps ds, SqL.of at_, k H2 m⟩
      · rw [decide_eq_false (show ¬ ((ds.length : Nat) : Int) = (ps.length : Nat) by omega)]
        refine iteT ?_
        walk_at "st"
        have e : wordsD ps (.tuple ds) = false := by
          show (_ && _) = _
          rw [decide_eq_false c]
          rfl
        rw [← e]
        exact k H (Same.refl H)
    · walk_at "st"
      refine iteT (iteT ?_)
      walk_at "st"
      rw [← wordsD_no no]
      exact k H (Same.refl H)
end
end Z
local macro_rules | `(tactic| walk_at "st") => `(tactic| repeat (first
  | ((with_reducible refine' Z.s_var ?h ?_); (case h => exact rfl))
  | with_reducible refine Z.s_c ?_
  | with_reducible refine Z.s_op ?_
  | with_reducible refine Z.s_un ?_
  | with_reducible refine Z.s_nil ?_
  | with_reducible refine Z.s_cons ?_
  | with_reducible refine Z.s_cb ?_
  | with_reducible refine Z.s_call ?_
  | with_reducible refine Z.s_tup ?_
  | with_reducible refine Z.s_lst ?_
  | with_reducible refine Z.s_test ?_
  | with_reducible refine Z.s_B ?_
  | with_reducible refine Z.s_and ?_
  | with_reducible refine Z.s_or ?_
  | with_reducible refine Z.s_not ?_
  | with_reducible refine Z.s_andV ?_
  | with_reducible refine Z.s_orV ?_
  | with_reducible refine Z.s_notV ?_
  | with_reducible refine Z.s_if ?_
  | with_reducible refine Z.s_chain ?_
  | with_reducible refine Z.s_seq ?_
  | with_reducible refine Z.s_next ?_
  | with_reducible refine Z.s_drop ?_
  | with_reducible refine Z.s_ret ?_
  | with_reducible refine Z.s_ifS ?_
  | with_reducible refine Z.s_asg ?_
  | with_reducible refine Z.s_name ?_
  | with_reducible refine Z.s_par ?_
  | with_reducible refine Z.s_item ?_
  | with_reducible refine Z.s_part ?_
  | with_reducible refine Z.s_noPart ?_
  | with_reducible refine Z.s_cut ?_
  | with_reducible refine Z.s_bm0 ?_
  | with_reducible refine Z.s_bm ?_
  | with_reducible refine Z.s_bl (P := _) ?_
  | with_reducible refine Z.s_two (P := _) ?_
  | with_reducible refine Z.s_int (P := _) ?_
  | with_reducible refine Z.a_addI ?_
  | with_reducible refine Z.a_subI ?_
  | with_reducible refine Z.a_ltI ?_
  | with_reducible refine Z.a_leI ?_
  | with_reducible refine Z.a_gtI ?_
  | with_reducible refine Z.a_geI ?_
  | with_reducible refine Z.a_eqI ?_
  | with_reducible refine Z.a_neI ?_
  | with_reducible refine Z.a_eqS ?_
  | with_reducible refine Z.a_neS ?_
  | with_reducible refine Z.a_eqB ?_
  | with_reducible refine Z.a_neB ?_
  | with_reducible refine Z.a_isN ?_
  | with_reducible refine Z.a_notN ?_
  | with_reducible refine Z.a_setL ?_
  | with_reducible refine Z.a_int ?_
  | with_reducible refine Z.a_intB ?_
  | with_reducible refine Z.a_abs ?_
  | with_reducible refine Z.a_max ?_
  | with_reducible refine Z.a_min ?_
  | with_reducible refine Z.s_lc ?_
  | with_reducible refine Z.s_for ?_
  | with_reducible refine Z.s_iList ?_
  | with_reducible refine Z.s_iTup ?_
  | with_reducible refine Z.s_iStr ?_
  | with_reducible refine Z.s_rng1 ?_
  | with_reducible refine Z.s_rng2 ?_
  | with_reducible refine Z.s_gtup ?_
  | with_reducible refine Z.s_gcons ?_
  | with_reducible refine Z.s_gnil ?_
  | with_reducible refine Z.s_yes ?_
  | with_reducible refine Z.s_ref (P := _) ?_
  | with_reducible refine Z.s_str (P := _) ?_
  | with_reducible refine Z.s_one (P := _) ?_
  | with_reducible refine Z.s_m1 ?_
  | with_reducible refine Z.s_m0 ?_
  | with_reducible refine Z.s_isStr ?_))
namespace Z
open PySem PySem.Spec PyProof.Rows L2 G
section
variable {P : Program} {w : World} {K : PySem.W.Frag} {mg : Str → Option Value} {base : Heap}
def Words1 (d : PyData) : Prop := ∀ ds z, d = .tuple ds → .str z ∈ ds → z.length ≤ 900000
def spIsCont (K : PySem.W.Frag) (C : Addr) : Sp := fun vs H Q _ => ∃ a u ps qs d, vs = [.ref a, u] ∧ StAt K C H a ps qs ∧ ps.length ≤ 3 ∧ Dz K H u d ∧ Words1 d ∧ ∀ H1, Same H H1 → Q (.bl (wordsD ps d)) H1
def spIsFill (K : PySem.W.Frag) (C : Addr) : Sp := fun vs H Q _ => ∃ a u ps qs d, vs = [.ref a, u] ∧ StAt K C H a ps qs ∧ qs.length ≤ 3 ∧ Dz K H u d ∧ Words1 d ∧ ∀ H1, Same H H1 → Q (.bl (wordsD qs d)) H1
abbrev sStreams_is_content : Stmt := inClass (topS 20) 7
theorem scStreams_is_content : FnScope ["self", "value"] ["self", "value"] (defScope sStreams_is_content) := ⟨rfl, rfl, rfl, by decide +kernel, rfl, by decide +kernel, by decide +kernel⟩
theorem ok_is_content {f C fw fi : Addr} {fd fdw fdi : FuncData} (T : Txt2 mg) (SC : StrmC K C) (M : MethAt K C "is_content" "Streams.is_content" sStreams_is_content ["self", "value"] f fd) (D_are_words : Def K mg "_are_words" s_are_words ["kind", "value"] fw fdw) (Dis_word : Def K mg "is_word" sis_word ["signs", "value"] fi fdi) : FnOk P w K mg base CX0 3 f fd ["self", "value"] (spIsCont K C) := by
  have G_are_words : FnOk P w K mg base CX0 2 fw fdw ["kind", "value"] (spWords K) := ok_are_words T D_are_words Dis_word
  refine M.F.ok scStreams_is_content (fun vs H Q E h => ?_) (fun cdv A outer s H vs Q E hr h => ?_)
  · obtain ⟨a, u, ps, qs, d, rfl, _⟩ := h
    rfl
  · obtain ⟨a, u, ps, qs, d, rfl, ⟨dx, v, v2, n, m, o, h1, h2, h3, _, _⟩, lp, dz, sm, k⟩ := h
    refine ⟨_, (pss_one (ps_ret (pe_call G_are_words (hr.mono (by decide)) (by rfl) D_are_words.g D_are_words.F.kp D_are_words.b .nil pass0 (pa_cons (pe_fld (pv 0) rfl) (pa_cons (pv 1) pa_nil))))), ?_⟩
    walk_at "st"
    with_reducible refine s_fld ?_
    walk_at "st"
    refine ⟨a, C, dx, _, _, rfl, h1, SC.cl, SC.n1, sF_1 _ _ _ _, ?_⟩
    walk_at "st"
    exact ⟨v, u, ps, d, rfl, h2, dz, lp, sm, k⟩
abbrev sStreams_is_filling : Stmt := inClass (topS 20) 8
theorem scStreams_is_filling : FnScope ["self", "value"] ["self", "value"] (defScope sStreams_is_filling) := ⟨rfl, rfl, rfl, by decide +kernel, rfl, by decide +kernel, by decide +kernel⟩
theorem ok_is_filling {f C fw fi : Addr} {fd fdw fdi : FuncData} (T : Txt2 mg) (SC : StrmC K C) (M : MethAt K C "is_filling" "Streams.is_filling" sStreams_is_filling ["self", "value"] f fd) (D_are_words : Def K mg "_are_words" s_are_words ["kind", "value"] fw fdw) (Dis_word : Def K mg "is_word" sis_word ["signs", "value"] fi fdi) : FnOk P w K mg base CX0 3 f fd ["self", "value"] (spIsFill K C) := by
  have G_are_words : FnOk P w K mg base CX0 2 fw fdw ["kind", "value"] (spWords K) := ok_are_words T D_are_words Dis_word
  refine M.F.ok scStreams_is_filling (fun vs H Q E h => ?_) (fun cdv A outer s H vs Q E hr h => ?_)
  · obtain ⟨a, u, ps, qs, d, rfl, _⟩ := h
    rfl
  · obtain ⟨a, u, ps, qs, d, rfl, ⟨dx, v, v2, n, m, o, h1, h2, h3, _, _⟩, lp, dz, sm, k⟩ := h
    refine ⟨_, (pss_one (ps_ret (pe_call G_are_words (hr.mono (by decide)) (by rfl) D_are_words.g D_are_words.F.kp D_are_words.b .nil pass0 (pa_cons (pe_fld (pv 0) rfl) (pa_cons (pv 1) pa_nil))))), ?_⟩
    walk_at "st"
    with_reducible refine s_fld ?_
    walk_at "st"
    refine ⟨a, C, dx, _, _, rfl, h1, SC.cl, SC.n2, sF_2 _ _ _ _, ?_⟩
    walk_at "st"
    exact ⟨v2, u, qs, d, rfl, h3, dz, lp, sm, k⟩
theorem joinL_len : ∀ l : List (List Nat), (TL.joinL [] l).length = (l.map List.length).sum
  | [] => rfl
  | [c] => by simp [TL.joinL]
  | c :: d :: r => by
    have ih := joinL_len (d :: r)
    show (c ++ ([] ++ TL.joinL [] (d :: r))).length = _
    rw [List.nil_append, List.length_append, ih]
    rfl
theorem join_len (ys : List Str) : (Txt.join (Str.ofString "") ys).length = (ys.map (·.length)).sum := by
  have e : (Str.ofString "").cps.toList = [] := by decide +kernel
  have t := TL.tl_join (Str.ofString "") ys
  rw [← TL.join_eq] at t
  show (Txt.join (Str.ofString "") ys).cps.size = _
  have t2 : (Txt.join (Str.ofString "") ys).cps.toList = TL.joinL (Str.ofString "").cps.toList (ys.map fun y => y.cps.toList) := t
  rw [← Array.length_toList, t2, e, joinL_len, List.map_map]
  refine congrArg List.sum (List.map_congr_left fun y _ => ?_)
  show y.cps.toList.length = y.cps.size
  exact Array.length_toList
/-- how many steps: a content and a filling that are right -/
def spSteps (K : PySem.W.Frag) (C : Addr) : Sp := fun vs H Q _ => ∃ a u1 u2 ps qs, ∃ ws xs : List Str, vs = [.ref a, u1, u2] ∧ StAt K C H a ps qs ∧ ps.length ≤ 3 ∧ qs.length ≤ 3 ∧ Dz K H u1 (.tuple (ws.map .str)) ∧ Dz K H u2 (.tuple (xs.map .str)) ∧
  (∀ z ∈ ws ++ xs, z.length ≤ 900000) ∧ wordsD ps (.tuple (ws.map .str)) = true ∧ wordsD qs (.tuple (xs.map .str)) = true ∧ ∀ H1, Same H H1 → Q (.int (((ws.map (·.length)).sum + ps.length + (xs.map (·.length)).sum : Nat))) H1
theorem dz_texts {H : Hp} : ∀ {xs : List V} {ws : List Str}, DzAll K H xs (ws.map .str) → xs = ws.map V.str
  | [], [], _ => rfl
  | x :: xs, w :: ws, h => by
    cases h with
    | cons a b =>
      cases a
      exact congrArg (V.str w :: ·) (dz_texts b)
theorem words_of {ws : List Str} (h : ∀ z ∈ ws, z.length ≤ 900000) : Words1 (.tuple (ws.map .str)) := by
  intro ds z e hz
  cases e
  obtain ⟨y, hy, e⟩ := List.mem_map.mp hz
  cases e
  exact h z hy
theorem len_of {ps : List (Str × Str)} {ds : List PyData} (h : wordsD ps (.tuple ds) = true) : ds.length = ps.length := by
  have h2 : (decide (ds.length = ps.length) && (zipW ps ds).all id) = true := h
  rw [Bool.and_eq_true, decide_eq_true_eq] at h2
  exact h2.1
theorem sum_le : ∀ {zs : List Str}, (∀ z ∈ zs, z.length ≤ 900000) → (zs.map (·.length)).sum ≤ zs.length * 900000
  | [], _ => Nat.le_refl 0
  | z :: zs, h => by
    have a := h z List.mem_cons_self
    have b := sum_le fun y hy => h y (List.mem_cons_of_mem _ hy)
    rw [List.map_cons, List.sum_cons, List.length_cons]
    omega
abbrev sStreams_steps_of : Stmt := inClass (topS 20) 9
theorem scStreams_steps_of : FnScope ["self", "content", "filling"] ["self", "content", "filling"] (defScope sStreams_steps_of) := ⟨rfl, rfl, rfl, by decide +kernel, rfl, by decide +kernel, by decide +kernel⟩
theorem ok_steps {f C f1 f2 fw fi : Addr} {fd fd1 fd2 fdw fdi : FuncData} (T : Txt2 mg) (SC : StrmC K C) (M : MethAt K C "steps_of" "Streams.steps_of" sStreams_steps_of ["self", "content", "filling"] f fd) (Mis_content : MethAt K C "is_content" "Streams.is_content" sStreams_is_content ["self", "value"] f1 fd1) (Mis_filling : MethAt K C "is_filling" "Streams.is_filling" sStreams_is_filling ["self", "value"] f2 fd2)
    (D_are_words : Def K mg "_are_words" s_are_words ["kind", "value"] fw fdw) (Dis_word : Def K mg "is_word" sis_word ["signs", "value"] fi fdi) : FnOk P w K mg base CX0 4 f fd ["self", "content", "filling"] (spSteps K C) := by
  have Gis_content : FnOk P w K mg base CX0 3 f1 fd1 ["self", "value"] (spIsCont K C) := ok_is_content T SC Mis_content D_are_words Dis_word
  have Gis_filling : FnOk P w K mg base CX0 3 f2 fd2 ["self", "value"] (spIsFill K C) := ok_is_filling T SC Mis_filling D_are_words Dis_word
  refine M.F.ok scStreams_steps_of (fun vs H Q E h => ?_) (fun cdv A outer s H vs Q E hr h => ?_)
  · obtain ⟨a, u1, u2, ps, qs, ws, xs, rfl, _⟩ := h
    rfl
  · obtain ⟨a, u1, u2, ps, qs, ws, xs, rfl, st, lp, lq, dz, dy, small, g1, g2, k⟩ := h
    obtain ⟨dx, v, v2, n, m, o, h1, h2, h3, h4, h5⟩ := id st
    have w1 := words_of fun z hz => small z (List.mem_append_left _ hz)
    have w2 := words_of fun z hz => small z (List.mem_append_right _ hz)
    refine ⟨_, (pss_cons (ps_if (pt_not (pt_val (pe_meth (pv 0) SC.cl Mis_content.meth Gis_content (hr.mono (by decide)) Mis_content.b .nil pass0 (pa_cons (pv 1) pa_nil))))
  (pss_one ps_never)
  pss_nil)
 (pss_cons (ps_if (pt_not (pt_val (pe_meth (pv 0) SC.cl Mis_filling.meth Gis_filling (hr.mono (by decide)) Mis_filling.b .nil pass0 (pa_cons (pv 2) pa_nil))))
  (pss_one ps_never)
  pss_nil)
 (pss_one (ps_ret (pe_op (Z.k_add (K := K)) (pe_op (Z.k_add (K := K)) (pe_callB (Z.k_len (K := K)) (by rfl) T.len (by decide +kernel) (pa_cons (Z.k_join (K := K) pe_str (pv 1)) pa_nil)) (pe_callB (Z.k_len (K := K)) (by rfl) T.len (by decide +kernel) (pa_cons (pe_fld (pv 0) rfl) pa_nil))) (pe_callB (Z.k_len (K := K)) (by rfl) T.len (by decide +kernel) (pa_cons (Z.k_join (K := K) pe_str (pv 2)) pa_nil))))))), ?_⟩
    walk_at "st"
    with_reducible refine s_meth ?_
    walk_at "st"
    refine ⟨a, dx, _, rfl, h1, sF_no (by decide +kernel) (by decide +kernel) (by decide +kernel) (by decide +kernel), ?_⟩
    walk_at "st"
    refine ⟨a, u1, ps, qs, _, rfl, st, lp, dz, w1, fun H1 s1 => ?_⟩
    refine s_bl (P := _) ?_
    rw [g1]
    refine iteF ?_
    walk_at "st"
    with_reducible refine s_meth ?_
    walk_at "st"
    refine ⟨a, dx, _, rfl, s1 _ _ h1, sF_no (by decide +kernel) (by decide +kernel) (by decide +kernel) (by decide +kernel), ?_⟩
    walk_at "st"
    refine ⟨a, u2, ps, qs, _, rfl, st.same s1, lq, Dz.same s1 _ _ dy, w2, fun H2 s2 => ?_⟩
    have s12 := s1.trans s2
    refine s_bl (P := _) ?_
    rw [g2]
    refine iteF ?_
    obtain ⟨b1, ys1, rfl, hb1, hd1⟩ := dz.tuple
    obtain ⟨b2, ys2, rfl, hb2, hd2⟩ := dy.tuple
    rw [dz_texts hd1] at hb1
    rw [dz_texts hd2] at hb2
    have l1 := len_of g1
    have l2 := len_of g2
    rw [List.length_map] at l1 l2
    have m1 := sum_le fun z hz => small z (List.mem_append_left xs hz)
    have m2 := sum_le fun z hz => small z (List.mem_append_right ws hz)
    have z0 : (Str.ofString "").length = 0 := by decide +kernel
    walk_at "st"
    refine ⟨ws, .inr (same_sqt s12 hb1), by rw [z0]; omega, ?_⟩
    walk_at "st"
    refine ⟨by rw [join_len, sizeLine_eq]; omega, ?_⟩
    walk_at "st"
    with_reducible refine s_fld ?_
    walk_at "st"
    refine ⟨a, C, dx, _, _, rfl, s12 _ _ h1, SC.cl, SC.n1, sF_1 _ _ _ _, ?_⟩
    obtain ⟨_, zs, rfl, hx, hd⟩ := h2.tuple
    walk_at "st"
    refine len_tup (same_sqt s12 hx) (DzAll.same s12 _ _ hd) ?_
    walk_at "st"
    refine ⟨xs, .inr (same_sqt s12 hb2), by rw [z0]; omega, ?_⟩
    walk_at "st"
    refine ⟨by rw [join_len, sizeLine_eq]; omega, ?_⟩
    walk_at "st"
    rw [join_len, join_len, List.length_map]
    have e : (((ws.map (·.length)).sum : Nat) : Int) + ((ps.length : Nat) : Int) + (((xs.map (·.length)).sum : Nat) : Int) = (((ws.map (·.length)).sum + ps.length + (xs.map (·.length)).sum : Nat) : Int) := by omega
    rw [e]
    exact k H2 s12
end
end Z
local macro_rules | `(tactic| walk_at "st") => `(tactic| repeat (first
  | ((with_reducible refine' Z.s_var ?h ?_); (case h => exact rfl))
  | with_reducible refine Z.s_c ?_
  | with_reducible refine Z.s_op ?_
  | with_reducible refine Z.s_un ?_
  | with_reducible refine Z.s_nil ?_
  | with_reducible refine Z.s_cons ?_
  | with_reducible refine Z.s_cb ?_
  | with_reducible refine Z.s_call ?_
  | with_reducible refine Z.s_tup ?_
  | with_reducible refine Z.s_lst ?_
  | with_reducible refine Z.s_test ?_
  | with_reducible refine Z.s_B ?_
  | with_reducible refine Z.s_and ?_
  | with_reducible refine Z.s_or ?_
  | with_reducible refine Z.s_not ?_
  | with_reducible refine Z.s_andV ?_
  | with_reducible refine Z.s_orV ?_
  | with_reducible refine Z.s_notV ?_
  | with_reducible refine Z.s_if ?_
  | with_reducible refine Z.s_chain ?_
  | with_reducible refine Z.s_seq ?_
  | with_reducible refine Z.s_next ?_
  | with_reducible refine Z.s_drop ?_
  | with_reducible refine Z.s_ret ?_
  | with_reducible refine Z.s_ifS ?_
  | with_reducible refine Z.s_asg ?_
  | with_reducible refine Z.s_name ?_
  | with_reducible refine Z.s_par ?_
  | with_reducible refine Z.s_item ?_
  | with_reducible refine Z.s_part ?_
  | with_reducible refine Z.s_noPart ?_
  | with_reducible refine Z.s_cut ?_
  | with_reducible refine Z.s_bm0 ?_
  | with_reducible refine Z.s_bm ?_
  | with_reducible refine Z.s_bl (P := _) ?_
  | with_reducible refine Z.s_two (P := _) ?_
  | with_reducible refine Z.s_int (P := _) ?_
  | with_reducible refine Z.a_addI ?_
  | with_reducible refine Z.a_subI ?_
  | with_reducible refine Z.a_ltI ?_
  | with_reducible refine Z.a_leI ?_
  | with_reducible refine Z.a_gtI ?_
  | with_reducible refine Z.a_geI ?_
  | with_reducible refine Z.a_eqI ?_
  | with_reducible refine Z.a_neI ?_
  | with_reducible refine Z.a_eqS ?_
  | with_reducible refine Z.a_neS ?_
  | with_reducible refine Z.a_eqB ?_
  | with_reducible refine Z.a_neB ?_
  | with_reducible refine Z.a_isN ?_
  | with_reducible refine Z.a_notN ?_
  | with_reducible refine Z.a_setL ?_
  | with_reducible refine Z.a_int ?_
  | with_reducible refine Z.a_intB ?_
  | with_reducible refine Z.a_abs ?_
  | with_reducible refine Z.a_max ?_
  | with_reducible refine Z.a_min ?_
  | with_reducible refine Z.s_lc ?_
  | with_reducible refine Z.s_for ?_
  | with_reducible refine Z.s_iList ?_
  | with_reducible refine Z.s_iTup ?_
  | with_reducible refine Z.s_iStr ?_
  | with_reducible refine Z.s_rng1 ?_
  | with_reducible refine Z.s_rng2 ?_
  | with_reducible refine Z.s_gtup ?_
  | with_reducible refine Z.s_gcons ?_
  | with_reducible refine Z.s_gnil ?_
  | with_reducible refine Z.s_yes ?_
  | with_reducible refine Z.s_ref (P := _) ?_
  | with_reducible refine Z.s_str (P := _) ?_
  | with_reducible refine Z.s_one (P := _) ?_
  | with_reducible refine Z.s_m1 ?_
  | with_reducible refine Z.s_m0 ?_
  | with_reducible refine Z.s_isStr ?_))
namespace Z
open PySem PySem.Spec PyProof.Rows L2 G
section
variable {P : Program} {w : World} {K : PySem.W.Frag} {mg : Str → Option Value} {base : Heap}
/-- sources and sinks that streams may have -/
def letS (ps qs : List (Str × Str)) : Bool := strsD (.tuple (ps.map prD)) (.tuple (qs.map prD))
theorem nms_parts (ps : List (Str × Str)) : nmsD (.tuple (ps.map prD)) = ps.map (·.1) := by
  show (ps.map prD).map nm1 = _
  rw [List.map_map]
  rfl
theorem kvs_parts (ps : List (Str × Str)) : kvsD (.tuple (ps.map prD)) = ps.map kvp := by
  show (ps.map prD).map kv1 = _
  rw [List.map_map]
  rfl
theorem s_make {C : Addr} {sp : Sp} {E : XK} {t : TA} {σ : L2.St} {H : Hp} {Q : VK} (q : t σ H fun vs H1 => ∀ x dx, H1 x = none → H1 dx = none → dx ≠ x → sp (.ref x :: vs) (upd (upd H1 dx (.own x)) x (.ins C dx [])) (fun v H2 => v = .non ∧ Q (.ref x) H2) E) : tMake C sp [] E t σ H Q := by
  unfold tMake
  simp only [List.append_nil]
  exact q
/-- the making of streams that are let -/
theorem make_ok {C CF x dx : Addr} {H : Hp} {Q : VK} {E : XK} {v u : V} {ps qs : List (Str × Str)} (nx : H x = none) (ndx : H dx = none) (ne : dx ≠ x) (dz : Dz K H v (.tuple (ps.map prD))) (dy : Dz K H u (.tuple (qs.map prD))) (ld : wt (.tuple (ps.map prD)) ≤ 10000000) (le : wt (.tuple (qs.map prD)) ≤ 10000000)
    (b : letS ps qs = true) (k : ∀ H1, Same H H1 → StAt K C H1 x ps qs → Q (.ref x) H1) : spStreams K C CF [.ref x, v, u] (upd (upd H dx (.own x)) x (.ins C dx [])) (fun v H2 => v = .non ∧ Q (.ref x) H2) E := by
  have sm : Same H (hid x (upd (upd H dx (.own x)) x (.ins C dx []))) := by
    intro c o hb
    have nb : c ≠ x := ne_of_none hb nx
    rw [hid_ne nb, upd_ne nb, upd_ne (ne_of_none hb ndx)]
    exact hb
  refine ⟨x, dx, v, u, _, _, rfl, upd_same, Dz.same sm _ _ dz, Dz.same sm _ _ dy, ld, le, fun z => ?_, fun _ H1 n m o po keep hx hn hm => ?_⟩
  · have b2 : strsD (.tuple (ps.map prD)) (.tuple (qs.map prD)) = true := b
    rw [b2] at z
    cases z
  · have s : Same H H1 := by
      intro c o2 hc
      obtain ⟨nc, hc2⟩ := hid_some (sm c o2 hc)
      exact keep c o2 hc2 nc
    refine ⟨rfl, k H1 s ⟨dx, v, u, n, m, o, hx, Dz.same s _ _ dz, Dz.same s _ _ dy, ⟨po, ?_⟩, ?_⟩⟩
    · rw [hn, nms_parts, nms_parts, List.map_append]
    · rw [hm, kvs_parts, kvs_parts, List.map_append]
/-- o + p -/
def spAdd (K : PySem.W.Frag) (C CF : Addr) : Sp := fun vs H Q E => ∃ a b ps qs rs ts, vs = [.ref a, .ref b] ∧ StAt K C H a ps qs ∧ StAt K C H b rs ts ∧ ps.length ≤ 3 ∧ qs.length ≤ 3 ∧ rs.length ≤ 3 ∧ ts.length ≤ 3 ∧ wt (.tuple ((ps ++ rs).map prD)) ≤ 10000000 ∧ wt (.tuple ((qs ++ ts).map prD)) ≤ 10000000 ∧
  (letS (ps ++ rs) (qs ++ ts) = true → ∀ H1 p, Same H H1 → StAt K C H1 p (ps ++ rs) (qs ++ ts) → Q (.ref p) H1) ∧ (letS (ps ++ rs) (qs ++ ts) = false → ∀ H1, Same H H1 → E (.ref CF) none H1)
abbrev sStreams___add__ : Stmt := inClass (topS 20) 15
theorem scStreams___add__ : FnScope ["self", "other", "sources", "sinks"] ["self", "other"] (defScope sStreams___add__) := ⟨rfl, rfl, rfl, by decide +kernel, rfl, by decide +kernel, by decide +kernel⟩
section
variable {f fI C CF CI fas fk fst fn fs fl : Addr} {fd fdI fdas fdk fdst fdn fds fdl : FuncData}
theorem ok_add (T : Txt2 mg) (N8 : Num mg "MAX_NAME" 8) (N4 : Num mg "MAX_SIGNS" 4) (N3 : Num mg "MAX_KIND" 3) (M : MethAt K C "__add__" "Streams.__add__" sStreams___add__ ["self", "other"] f fd) (IC : IsC K C)
    (MStreams : Mk K C fI) (F : Fun K "__init__" "Streams.__init__" sStreams___init__ fI fdI) (bStreams : Binds K fdI ["self", "sources", "sinks"] []) (gStreams : mg "Streams" = some (.ref C)) (SC : StrmC K C) (XInvalidStreams : Err K mg "InvalidStreams" CI) (XInvalidOperation : Err K mg "InvalidOperation" CF)
    (D_are_streams : Def K mg "_are_streams" s_are_streams ["sources", "sinks"] fas fdas) (D_are_kind : Def K mg "_are_kind" s_are_kind ["value", "fewest"] fk fdk) (D_is_stream : Def K mg "_is_stream" s_is_stream ["value"] fst fdst)
    (Dis_name : Def K mg "is_name" sis_name ["value"] fn fdn) (Dis_signs : Def K mg "is_signs" sis_signs ["value"] fs fds) (Dare_letters : Def K mg "are_letters" sare_letters ["text"] fl fdl) : FnOk P w K mg base (L2.CX P w) 8 f fd ["self", "other"] (spAdd K C CF) := by
  have GStreams : FnOk P w K mg base (L2.CX P w) 6 fI fdI ["self", "sources", "sinks"] (spStreams K C CI) := ok_streams T N8 N4 N3 F SC XInvalidStreams D_are_streams D_are_kind D_is_stream Dis_name Dis_signs Dare_letters
  have G_are_streams : FnOk P w K mg base CX0 5 fas fdas ["sources", "sinks"] (spBoth K) := ok_are_streams T N8 N4 N3 D_are_streams D_are_kind D_is_stream Dis_name Dis_signs Dare_letters
  refine M.F.okX scStreams___add__ (fun vs H Q E h => ?_) (fun cdv A outer s H vs Q E hr h => ?_)
  · obtain ⟨a, b, ps, qs, rs, ts, rfl, _⟩ := h
    rfl
  · obtain ⟨a, b, ps, qs, rs, ts, rfl, ⟨dx, v, u, n, m, o, h1, h2, h3, h4, h5⟩, ⟨dx', v', u', n', m', o', h1', h2', h3', h4', h5'⟩, lp, lq, lr, lt, w1, w2, yes, no⟩ := h
    refine ⟨_, (pss_cons (ps_if (pt_not (pt_val (pe_callB (Z.k_is (K := K)) (by rfl) T.isinstance (by decide +kernel) (pa_cons (pv 1) (pa_cons (pe_glob (v := .ref C) (by rfl) gStreams rfl) pa_nil)))))
  (pss_one ps_never)
  pss_nil)
 (pss_cons (ps_set (i := 2) scStreams___add__.nd rfl (by first | exact Or.inl rfl | exact Or.inr rfl) (pe_op (Z.k_add (K := K)) (pe_fld (pv 0) rfl) (pe_fld (pv 1) rfl)))
 (pss_cons (ps_set (i := 3) scStreams___add__.nd rfl (by first | exact Or.inl rfl | exact Or.inr rfl) (pe_op (Z.k_add (K := K)) (pe_fld (pv 0) rfl) (pe_fld (pv 1) rfl)))
 (pss_cons (ps_if (pt_not (pt_val (pe_call G_are_streams (hr.mono (by decide)) (by rfl) D_are_streams.g D_are_streams.F.kp D_are_streams.b .nil pass0 (pa_cons (pv 2) (pa_cons (pv 3) pa_nil)))))
  (pss_one (ps_raise rfl (takes_of rfl rfl rfl rfl) (pmk_own PySem.F.excBase_ValueError (XInvalidOperation).x (XInvalidOperation).g (XInvalidOperation).k (raises_own (XInvalidOperation).b (XInvalidOperation).t) (by exact rfl))))
  pss_nil)
 (pss_one (ps_ret (pe_make (E := fun _ _ _ => False) MStreams GStreams (hr.mono (by decide)) (by rfl) gStreams bStreams .nil (passes_call (takes_of rfl rfl rfl rfl) fun _ _ _ _ h => h.elim) (pa_cons (pv 2) (pa_cons (pv 3) pa_nil))))))))), ?_⟩
    walk_at "st"
    refine is_own IC SC.cl h1' ?_
    refine s_bl (P := _) ?_
    refine iteF ?_
    obtain ⟨va, xs1, rfl, a1, d1⟩ := h2.tuple
    obtain ⟨vb, xs2, rfl, a2, d2⟩ := h2'.tuple
    obtain ⟨ua, ys1, rfl, a3, d3⟩ := h3.tuple
    obtain ⟨ub, ys2, rfl, a4, d4⟩ := h3'.tuple
    have n1 := d1.len
    have n2 := d2.len
    have n3 := d3.len
    have n4 := d4.len
    rw [List.length_map] at n1 n2 n3 n4
    walk_at "st"
    with_reducible refine s_fld ?_
    walk_at "st"
    refine ⟨a, C, dx, _, _, rfl, h1, SC.cl, SC.n1, sF_1 _ _ _ _, ?_⟩
    with_reducible refine s_fld ?_
    walk_at "st"
    refine ⟨b, C, dx', _, _, rfl, h1', SC.cl, SC.n1, sF_1 _ _ _ _, ?_⟩
    refine cat_tup a1 a2 (by omega) fun p1 H1 s1 t1 => ?_
    walk_at "st"
    with_reducible refine s_fld ?_
    walk_at "st"
    refine ⟨a, C, dx, _, _, rfl, s1 _ _ h1, SC.cl, SC.n2, sF_2 _ _ _ _, ?_⟩
    with_reducible refine s_fld ?_
    walk_at "st"
    refine ⟨b, C, dx', _, _, rfl, s1 _ _ h1', SC.cl, SC.n2, sF_2 _ _ _ _, ?_⟩
    refine cat_tup (same_sqt s1 a3) (same_sqt s1 a4) (by omega) fun p2 H2 s2 t2 => ?_
    have s12 := s1.trans s2
    have e1 : Dz K H2 (.ref p1) (.tuple ((ps ++ rs).map prD)) := by
      rw [List.map_append]
      exact .tup (same_sqt s2 t1) ((DzAll.same s12 _ _ d1).app (DzAll.same s12 _ _ d2))
    have e2 : Dz K H2 (.ref p2) (.tuple ((qs ++ ts).map prD)) := by
      rw [List.map_append]
      exact .tup t2 ((DzAll.same s12 _ _ d3).app (DzAll.same s12 _ _ d4))
    walk_at "st"
    refine ⟨.ref p1, .ref p2, _, _, rfl, e1, e2, w1, w2, fun H3 s3 => ?_⟩
    refine s_bl (P := _) ?_
    have s13 := s12.trans s3
    cases c : letS (ps ++ rs) (qs ++ ts) with
    | false =>
      rw [show strsD (.tuple ((ps ++ rs).map prD)) (.tuple ((qs ++ ts).map prD)) = false from c]
      refine iteT ?_
      exact no c H3 s13
    | true =>
      rw [show strsD (.tuple ((ps ++ rs).map prD)) (.tuple ((qs ++ ts).map prD)) = true from c]
      refine iteF ?_
      walk_at "st"
      with_reducible refine s_make ?_
      walk_at "st"
      intro x dy nx ndx ne
      exact make_ok nx ndx ne (Dz.same s3 _ _ e1) (Dz.same s3 _ _ e2) w1 w2 c fun H4 s4 st => yes c H4 x (s13.trans s4) st
end
end
end Z
local macro_rules | `(tactic| walk_at "st") => `(tactic| repeat (first
  | ((with_reducible refine' Z.s_var ?h ?_); (case h => exact rfl))
  | with_reducible refine Z.s_c ?_
  | with_reducible refine Z.s_op ?_
  | with_reducible refine Z.s_un ?_
  | with_reducible refine Z.s_nil ?_
  | with_reducible refine Z.s_cons ?_
  | with_reducible refine Z.s_cb ?_
  | with_reducible refine Z.s_call ?_
  | with_reducible refine Z.s_tup ?_
  | with_reducible refine Z.s_lst ?_
  | with_reducible refine Z.s_test ?_
  | with_reducible refine Z.s_B ?_
  | with_reducible refine Z.s_and ?_
  | with_reducible refine Z.s_or ?_
  | with_reducible refine Z.s_not ?_
  | with_reducible refine Z.s_andV ?_
  | with_reducible refine Z.s_orV ?_
  | with_reducible refine Z.s_notV ?_
  | with_reducible refine Z.s_if ?_
  | with_reducible refine Z.s_chain ?_
  | with_reducible refine Z.s_seq ?_
  | with_reducible refine Z.s_next ?_
  | with_reducible refine Z.s_drop ?_
  | with_reducible refine Z.s_ret ?_
  | with_reducible refine Z.s_ifS ?_
  | with_reducible refine Z.s_asg ?_
  | with_reducible refine Z.s_name ?_
  | with_reducible refine Z.s_par ?_
  | with_reducible refine Z.s_item ?_
  | with_reducible refine Z.s_part ?_
  | with_reducible refine Z.s_noPart ?_
  | with_reducible refine Z.s_cut ?_
  | with_reducible refine Z.s_bm0 ?_
  | with_reducible refine Z.s_bm ?_
  | with_reducible refine Z.s_bl (P := _) ?_
  | with_reducible refine Z.s_two (P := _) ?_
  | with_reducible refine Z.s_int (P := _) ?_
  | with_reducible refine Z.a_addI ?_
  | with_reducible refine Z.a_subI ?_
  | with_reducible refine Z.a_ltI ?_
  | with_reducible refine Z.a_leI ?_
  | with_reducible refine Z.a_gtI ?_
  | with_reducible refine Z.a_geI ?_
  | with_reducible refine Z.a_eqI ?_
  | with_reducible refine Z.a_neI ?_
  | with_reducible refine Z.a_eqS ?_
  | with_reducible refine Z.a_neS ?_
  | with_reducible refine Z.a_eqB ?_
  | with_reducible refine Z.a_neB ?_
  | with_reducible refine Z.a_isN ?_
  | with_reducible refine Z.a_notN ?_
  | with_reducible refine Z.a_setL ?_
  | with_reducible refine Z.a_int ?_
  | with_reducible refine Z.a_intB ?_
  | with_reducible refine Z.a_abs ?_
  | with_reducible refine Z.a_max ?_
  | with_reducible refine Z.a_min ?_
  | with_reducible refine Z.s_lc ?_
  | with_reducible refine Z.s_for ?_
  | with_reducible refine Z.s_iList ?_
  | with_reducible refine Z.s_iTup ?_
  | with_reducible refine Z.s_iStr ?_
  | with_reducible refine Z.s_rng1 ?_
  | with_reducible refine Z.s_rng2 ?_
  | with_reducible refine Z.s_gtup ?_
  | with_reducible refine Z.s_gcons ?_
  | with_reducible refine Z.s_gnil ?_
  | with_reducible refine Z.s_yes ?_
  | with_reducible refine Z.s_ref (P := _) ?_
  | with_reducible refine Z.s_str (P := _) ?_
  | with_reducible refine Z.s_one (P := _) ?_
  | with_reducible refine Z.s_m1 ?_
  | with_reducible refine Z.s_m0 ?_
  | with_reducible refine Z.s_isStr ?_))
namespace Z
open PySem PySem.Spec PyProof.Rows L2 G
section
variable {P : Program} {w : World} {K : PySem.W.Frag} {mg : Str → Option Value} {base : Heap}
def tTruZ (K : PySem.W.Frag) (ta : TE) : TT := fun σ H Q => ta σ H fun x H1 => ∃ k, TruV K x H1 k ∧ Q k H1
theorem k_truth {X : Cx} {a : Expr} {ta : TE} (ha : PE X a ta) (he : ∀ whole, isTrue a X.env whole = (do let v ← whole; standAt a.pos; holding [v] (truthy v))) (h : X.K = K := by rfl) : PT X a (tTruZ K ta) := by
  subst h
  exact pt_truth ha he
theorem s_tru {ta : TE} {σ : L2.St} {H : Hp} {Q : Bool → Hp → Prop} (q : ta σ H fun x H1 => ∃ k, TruV K x H1 k ∧ Q k H1) : tTruZ K ta σ H Q := q
/-- [pair for pair in pairs if pair[0] != name] -/
theorem comp_less {σ : L2.St} {vs : List Nat} {j jn : Nat} {p : Addr} {xs : List V} {ps : List (Str × Str)} {z : Str} {H : Hp} {Q : VK} (hx : SqT K H p xs) (hd : DzAll K H xs (ps.map prD)) (few : ps.length ≤ 1000)
    (hw : ∀ x, wipe ((wipe σ vs).set j (some x)) vs = wipe σ vs) (hj : ∀ x, ((wipe σ vs).set j (some x))[j]? = some (some x)) (hn : ∀ x, ((wipe σ vs).set j (some x))[jn]? = some (some (.str z)))
    (done : ∀ L H2 ys, H L = none → Same H H2 → H2 L = some (.lst ys) → DzAll K H2 ys ((ps.filter fun p => decide (p.1 ≠ z)).map prD) → Q (.ref L) H2) :
    CompOk (Itt K p) (gName j) (tTest (tOp (Z.rNe K) (tOp (Z.rItem K) (tVar j) (tC (.int 0))) (tVar jn))) (tVar j) vs σ H Q := by
  have many : xs.length = ps.length := by
    rw [hd.len, List.length_map]
  refine comp2 (walkT (xs := xs)) (Same H) (fun L n acc H2 => DzAll K (hid L H2) acc (((ps.take n).filter fun p => decide (p.1 ≠ z)).map prD)) (Same.refl H) (fun L o H2 e m => same_upd m e) ?_ (fun _ _ => .nil) (fun H2 m => same_sqt m hx) ?_ ?_
  · intro L o i acc H2 e _ dz
    rw [hid_upd]
    exact dz
  · rintro L n acc x H2 fresh hi hxi len m at_ dz
    have ln : n < ps.length := by omega
    obtain ⟨d, hdi, dx⟩ := hd.get hxi
    rw [List.getElem?_map, List.getElem?_eq_getElem ln] at hdi
    have ed : d = prD ps[n] := (Option.some.inj hdi).symm
    rw [ed] at dx
    have dx2 : Dz K (hid L H2) x (prD ps[n]) := by
      refine Dz.same (fun b o e => ?_) _ _ dx
      rw [hid_ne (ne_of_none e fresh)]
      exact m b o e
    obtain ⟨a, zs, rfl, ha, hz⟩ := dx.tuple
    cases hz with
    | cons q1 q =>
      cases q with
      | cons q2 q =>
        cases q
        cases q1
        cases q2
        have tk : ps.take (n + 1) = ps.take n ++ [ps[n]] := by
          rw [List.take_add_one, List.getElem?_eq_getElem ln]
          rfl
        refine turnIf (hw _) ?_
        refine s_test (s_op (s_op (s_var (hj _) (s_c (itemT (same_sqt m ha) (by rfl) (s_var (hn _) (a_neS ?_)))))))
        refine s_bl (P := _) ?_
        by_cases c : ps[n].1 = z
        · rw [decide_eq_true c]
          refine iteF (skip at_ len m ?_)
          rw [tk, List.filter_append]
          simpa [c] using dz
        · rw [decide_eq_false c]
          refine iteT (s_var (hj _) ?_)
          refine put2 (acc := acc) (fun o H6 m6 => same_upd m6 fresh) ?_ at_ (by omega) len m ?_
          · intro o i acc H6 _ q
            rw [hid_upd]
            exact q
          · rw [tk, List.filter_append, show [ps[n]].filter (fun p => decide (p.1 ≠ z)) = [ps[n]] from by simp [c], List.map_append]
            exact dz.app (.cons dx2 .nil)
  · rintro L acc H2 fresh len m at_ dz
    rw [many, List.take_length] at dz
    exact done L H2 acc fresh m at_ (DzAll.same same_hid _ _ dz)
end
end Z
local macro_rules | `(tactic| walk_at "st") => `(tactic| repeat (first
  | ((with_reducible refine' Z.s_var ?h ?_); (case h => exact rfl))
  | with_reducible refine Z.s_c ?_
  | with_reducible refine Z.s_op ?_
  | with_reducible refine Z.s_un ?_
  | with_reducible refine Z.s_nil ?_
  | with_reducible refine Z.s_cons ?_
  | with_reducible refine Z.s_cb ?_
  | with_reducible refine Z.s_call ?_
  | with_reducible refine Z.s_tup ?_
  | with_reducible refine Z.s_lst ?_
  | with_reducible refine Z.s_test ?_
  | with_reducible refine Z.s_B ?_
  | with_reducible refine Z.s_and ?_
  | with_reducible refine Z.s_or ?_
  | with_reducible refine Z.s_not ?_
  | with_reducible refine Z.s_andV ?_
  | with_reducible refine Z.s_orV ?_
  | with_reducible refine Z.s_notV ?_
  | with_reducible refine Z.s_if ?_
  | with_reducible refine Z.s_chain ?_
  | with_reducible refine Z.s_seq ?_
  | with_reducible refine Z.s_next ?_
  | with_reducible refine Z.s_drop ?_
  | with_reducible refine Z.s_ret ?_
  | with_reducible refine Z.s_ifS ?_
  | with_reducible refine Z.s_asg ?_
  | with_reducible refine Z.s_name ?_
  | with_reducible refine Z.s_par ?_
  | with_reducible refine Z.s_item ?_
  | with_reducible refine Z.s_part ?_
  | with_reducible refine Z.s_noPart ?_
  | with_reducible refine Z.s_cut ?_
  | with_reducible refine Z.s_bm0 ?_
  | with_reducible refine Z.s_bm ?_
  | with_reducible refine Z.s_bl (P := _) ?_
  | with_reducible refine Z.s_two (P := _) ?_
  | with_reducible refine Z.s_int (P := _) ?_
  | with_reducible refine Z.a_addI ?_
  | with_reducible refine Z.a_subI ?_
  | with_reducible refine Z.a_ltI ?_
  | with_reducible refine Z.a_leI ?_
  | with_reducible refine Z.a_gtI ?_
  | with_reducible refine Z.a_geI ?_
  | with_reducible refine Z.a_eqI ?_
  | with_reducible refine Z.a_neI ?_
  | with_reducible refine Z.a_eqS ?_
  | with_reducible refine Z.a_neS ?_
  | with_reducible refine Z.a_eqB ?_
  | with_reducible refine Z.a_neB ?_
  | with_reducible refine Z.a_isN ?_
  | with_reducible refine Z.a_notN ?_
  | with_reducible refine Z.a_setL ?_
  | with_reducible refine Z.a_int ?_
  | with_reducible refine Z.a_intB ?_
  | with_reducible refine Z.a_abs ?_
  | with_reducible refine Z.a_max ?_
  | with_reducible refine Z.a_min ?_
  | with_reducible refine Z.s_lc ?_
  | with_reducible refine Z.s_for ?_
  | with_reducible refine Z.s_iList ?_
  | with_reducible refine Z.s_iTup ?_
  | with_reducible refine Z.s_iStr ?_
  | with_reducible refine Z.s_rng1 ?_
  | with_reducible refine Z.s_rng2 ?_
  | with_reducible refine Z.s_gtup ?_
  | with_reducible refine Z.s_gcons ?_
  | with_reducible refine Z.s_gnil ?_
  | with_reducible refine Z.s_yes ?_
  | with_reducible refine Z.s_ref (P := _) ?_
  | with_reducible refine Z.s_str (P := _) ?_
  | with_reducible refine Z.s_one (P := _) ?_
  | with_reducible refine Z.s_m1 ?_
  | with_reducible refine Z.s_m0 ?_
  | with_reducible refine Z.s_isStr ?_))
namespace Z
open PySem PySem.Spec PyProof.Rows L2 G
section
variable {P : Program} {w : World} {K : PySem.W.Frag} {mg : Str → Option Value} {base : Heap}
theorem kind_parts {n : Nat} {ps : List (Str × Str)} (h1 : n ≤ ps.length) (h3 : ps.length ≤ 3) (g : GoodP ps) : kindD n (.tuple (ps.map prD)) = true := by
  show (decide (n ≤ (ps.map prD).length) && decide ((ps.map prD).length ≤ 3) && (ps.map prD).all strmD) = true
  rw [List.length_map, decide_eq_true h1, decide_eq_true h3, Bool.true_and, Bool.true_and, List.all_map, List.all_eq_true]
  intro p hp
  obtain ⟨a, b⟩ := g p hp
  show (nameB p.1 && signsB p.2) = true
  rw [a, b]
  rfl
/-- what streams have -/
structure Strm (ps qs : List (Str × Str)) : Prop where
  one : 1 ≤ ps.length
  few : ps.length ≤ 3
  few2 : qs.length ≤ 3
  nd : ((ps ++ qs).map (·.1)).Nodup
  good : GoodP ps
  good2 : GoodP qs
theorem Strm.lets {ps qs : List (Str × Str)} (h : Strm ps qs) : letS ps qs = true := by
  unfold letS
  rw [strsD_yes (kind_parts h.one h.few h.good) (kind_parts (Nat.zero_le _) h.few2 h.good2), ← List.map_append, List.map_map]
  exact decide_eq_true h.nd
/-- without a name -/
def less (z : Str) (ps : List (Str × Str)) : List (Str × Str) := ps.filter fun p => decide (p.1 ≠ z)
theorem Strm.less {ps qs : List (Str × Str)} {z : Str} (h : Strm ps qs) (ne : Z.less z ps ≠ []) : Strm (Z.less z ps) (Z.less z qs) where
  one := List.length_pos_iff.mpr ne
  few := Nat.le_trans (List.length_filter_le _ _) h.few
  few2 := Nat.le_trans (List.length_filter_le _ _) h.few2
  nd := by
    have e : Z.less z ps ++ Z.less z qs = Z.less z (ps ++ qs) := (List.filter_append ..).symm
    rw [e]
    exact List.Nodup.sublist (List.Sublist.map _ List.filter_sublist) h.nd
  good := fun p hp => h.good p (List.mem_filter.mp hp).1
  good2 := fun p hp => h.good2 p (List.mem_filter.mp hp).1
theorem wt_parts {ps : List (Str × Str)} (g : GoodP ps) (few : ps.length ≤ 3) : wt (.tuple (ps.map prD)) ≤ 10000000 := by
  have each : ∀ d ∈ ps.map prD, wt d ≤ 1000 := by
    intro d hd
    obtain ⟨p, hp, rfl⟩ := List.mem_map.mp hd
    obtain ⟨a, b⟩ := small_pair (g p hp)
    simp only [wt, wtAll]
    omega
  have sum : ∀ ds : List PyData, (∀ d ∈ ds, wt d ≤ 1000) → wtAll ds ≤ ds.length * 1002 := by
    intro ds
    induction ds with
    | nil =>
      intro _
      simp only [wtAll]
      exact Nat.zero_le _
    | cons d ds ih =>
      intro h
      have a := h d List.mem_cons_self
      have b := ih fun e he => h e (List.mem_cons_of_mem _ he)
      simp only [wtAll, List.length_cons]
      omega
  have := sum _ each
  rw [List.length_map] at this
  simp only [wt]
  omega
def spLess (K : PySem.W.Frag) (C CF : Addr) : Sp := fun vs H Q E => ∃ a ps qs j z y, vs = [.ref a, .str z] ∧ StAt K C H a ps qs ∧ Strm ps qs ∧ NameAt ps qs j z y ∧
  (less z ps ≠ [] → ∀ H1 p, Same H H1 → StAt K C H1 p (less z ps) (less z qs) → Q (.ref p) H1) ∧ (less z ps = [] → ∀ H1, Same H H1 → E (.ref CF) none H1)
abbrev sStreams_without : Stmt := inClass (topS 20) 14
theorem scStreams_without : FnScope ["self", "name", "sources", "sinks", "pair"] ["self", "name"] (defScope sStreams_without) := ⟨rfl, rfl, rfl, by decide +kernel, rfl, by decide +kernel, by decide +kernel⟩
section
variable {f fc fI C CF CI fas fk fst fn fs fl : Addr} {fd fdc fdI fdas fdk fdst fdn fds fdl : FuncData}
theorem ok_without (T : Txt2 mg) (N8 : Num mg "MAX_NAME" 8) (N4 : Num mg "MAX_SIGNS" 4) (N3 : Num mg "MAX_KIND" 3) (M : MethAt K C "without" "Streams.without" sStreams_without ["self", "name"] f fd) (M__contains__ : MethAt K C "__contains__" "Streams.__contains__" sStreams___contains__ ["self", "value"] fc fdc)
    (MStreams : Mk K C fI) (F : Fun K "__init__" "Streams.__init__" sStreams___init__ fI fdI) (bStreams : Binds K fdI ["self", "sources", "sinks"] []) (gStreams : mg "Streams" = some (.ref C)) (SC : StrmC K C) (XInvalidStreams : Err K mg "InvalidStreams" CI) (XInvalidOperation : Err K mg "InvalidOperation" CF)
    (D_are_streams : Def K mg "_are_streams" s_are_streams ["sources", "sinks"] fas fdas) (D_are_kind : Def K mg "_are_kind" s_are_kind ["value", "fewest"] fk fdk) (D_is_stream : Def K mg "_is_stream" s_is_stream ["value"] fst fdst)
    (Dis_name : Def K mg "is_name" sis_name ["value"] fn fdn) (Dis_signs : Def K mg "is_signs" sis_signs ["value"] fs fds) (Dare_letters : Def K mg "are_letters" sare_letters ["text"] fl fdl) : FnOk P w K mg base (L2.CX P w) 8 f fd ["self", "name"] (spLess K C CF) := by
  have GStreams : FnOk P w K mg base (L2.CX P w) 6 fI fdI ["self", "sources", "sinks"] (spStreams K C CI) := ok_streams T N8 N4 N3 F SC XInvalidStreams D_are_streams D_are_kind D_is_stream Dis_name Dis_signs Dare_letters
  have G__contains__ : FnOk P w K mg base CX0 1 fc fdc ["self", "value"] (spContS K C) := ok_cont SC M__contains__
  refine M.F.okX scStreams_without (fun vs H Q E h => ?_) (fun cdv A outer s H vs Q E hr h => ?_)
  · obtain ⟨a, ps, qs, j, z, y, rfl, _⟩ := h
    rfl
  · obtain ⟨a, ps, qs, j, z, y, rfl, st, sg, na, yes, no⟩ := h
    obtain ⟨dx, v, u, n, m, o, h1, h2, h3, h4, h5⟩ := id st
    have hu := hr.units
    refine ⟨_, (pss_cons (ps_if (pt_cmpR (Z.op_notInO G__contains__ (hr.mono (by decide)) M__contains__.at_ M__contains__.fn M__contains__.b pass0) (pv 1) (pv 0) (by rfl))
  (pss_one ps_never)
  pss_nil)
 (pss_cons (ps_set (i := 2) scStreams_without.nd rfl (by first | exact Or.inl rfl | exact Or.inr rfl) (pe_callTy (Z.k_tuple (K := K)) (by rfl) T.tuple (by decide +kernel) (pa_cons (pe_lc (own := [("pair", 4)]) (by rfl) scStreams_without.nd (pi_tup (pe_fld (pv 0) rfl)) (blkOk_by (own := [("pair", 4)]) (N := ["self", "name", "sources", "sinks", "pair"]) (sc := defScope sStreams_without) (by decide +kernel))
   (fun _ _ _ _ _ => (pg_name (i := 4) scStreams_without.nd rfl (by first | exact Or.inl rfl | exact Or.inr rfl))) (fun _ _ _ _ _ => pts_one (pt_cmpR (Z.k_ne (K := K) hu) (pe_ix (Z.k_item (K := K)) (pv 4) pe_int (fun _ _ => rfl)) (pv 1) (nomark _))) (fun _ _ _ _ _ => (pv 4))) pa_nil)))
 (pss_cons (ps_set (i := 3) scStreams_without.nd rfl (by first | exact Or.inl rfl | exact Or.inr rfl) (pe_callTy (Z.k_tuple (K := K)) (by rfl) T.tuple (by decide +kernel) (pa_cons (pe_lc (own := [("pair", 4)]) (by rfl) scStreams_without.nd (pi_tup (pe_fld (pv 0) rfl)) (blkOk_by (own := [("pair", 4)]) (N := ["self", "name", "sources", "sinks", "pair"]) (sc := defScope sStreams_without) (by decide +kernel))
   (fun _ _ _ _ _ => (pg_name (i := 4) scStreams_without.nd rfl (by first | exact Or.inl rfl | exact Or.inr rfl))) (fun _ _ _ _ _ => pts_one (pt_cmpR (Z.k_ne (K := K) hu) (pe_ix (Z.k_item (K := K)) (pv 4) pe_int (fun _ _ => rfl)) (pv 1) (nomark _))) (fun _ _ _ _ _ => (pv 4))) pa_nil)))
 (pss_cons (ps_if (pt_not (Z.k_truth (K := K) (pv 2) (by intro _; rfl)))
  (pss_one (ps_raise rfl (takes_of rfl rfl rfl rfl) (pmk_own PySem.F.excBase_ValueError (XInvalidOperation).x (XInvalidOperation).g (XInvalidOperation).k (raises_own (XInvalidOperation).b (XInvalidOperation).t) (by exact rfl))))
  pss_nil)
 (pss_one (ps_ret (pe_make (E := fun _ _ _ => False) MStreams GStreams (hr.mono (by decide)) (by rfl) gStreams bStreams .nil (passes_call (takes_of rfl rfl rfl rfl) fun _ _ _ _ h => h.elim) (pa_cons (pv 2) (pa_cons (pv 3) pa_nil))))))))), ?_⟩
    walk_at "st"
    refine ⟨a, dx, _, rfl, h1, a, ps, qs, _, _, rfl, st, .str z, _, rfl, ?_⟩
    walk_at "st"
    rw [show inD ((ps ++ qs).map (·.1)) (.str z) = true from decide_eq_true na.mem]
    refine iteF ?_
    obtain ⟨va, xs1, rfl, a1, d1⟩ := h2.tuple
    obtain ⟨ua, ys1, rfl, a2, d2⟩ := h3.tuple
    walk_at "st"
    with_reducible refine s_fld ?_
    walk_at "st"
    refine ⟨a, C, dx, _, _, rfl, h1, SC.cl, SC.n1, sF_1 _ _ _ _, ?_⟩
    refine ⟨va, rfl, ⟨_, a1⟩, comp_less (z := z) (ps := ps) a1 d1 (by have := sg.few; omega) (fun _ => rfl) (fun _ => rfl) (fun _ => rfl) ?_⟩
    intro L1 H1 ys fresh1 s1 at1 e1
    walk_at "st"
    refine ⟨_, .inl ⟨SqL.of at1, fun p1 np1 => ?_⟩⟩
    generalize g1 : upd H1 p1 _ = H2
    have s2 : Same H1 H2 := by rw [← g1]; exact same_new (Same.refl H1) np1
    have t1 : SqT K H2 p1 ys := by rw [← g1]; exact SqT.of upd_same
    have e1' := DzAll.same s2 _ _ e1
    have s12 := s1.trans s2
    walk_at "st"
    with_reducible refine s_fld ?_
    walk_at "st"
    refine ⟨a, C, dx, _, _, rfl, s12 _ _ h1, SC.cl, SC.n2, sF_2 _ _ _ _, ?_⟩
    refine ⟨ua, rfl, ⟨_, same_sqt s12 a2⟩, comp_less (z := z) (ps := qs) (same_sqt s12 a2) (DzAll.same s12 _ _ d2) (by have := sg.few2; omega) (fun _ => rfl) (fun _ => rfl) (fun _ => rfl) ?_⟩
    intro L2 H3 zs fresh2 s3 at2 e2
    walk_at "st"
    refine ⟨_, .inl ⟨SqL.of at2, fun p2 np2 => ?_⟩⟩
    generalize g2 : upd H3 p2 _ = H4
    have s4 : Same H3 H4 := by rw [← g2]; exact same_new (Same.refl H3) np2
    have t2 : SqT K H4 p2 zs := by rw [← g2]; exact SqT.of upd_same
    have s24 := s3.trans s4
    have s14 := s12.trans s24
    have dz : Dz K H4 (.ref p1) (.tuple ((less z ps).map prD)) := .tup (same_sqt s24 t1) (DzAll.same s24 _ _ e1')
    have dy : Dz K H4 (.ref p2) (.tuple ((less z qs).map prD)) := .tup t2 (DzAll.same s4 _ _ e2)
    have ly := e1.len
    rw [List.length_map] at ly
    walk_at "st"
    with_reducible refine s_tru ?_
    walk_at "st"
    refine ⟨!ys.isEmpty, .inr (.inl ⟨ys, same_sqt s24 t1, rfl⟩), ?_⟩
    by_cases c : less z ps = []
    · have e : ys = [] := List.length_eq_zero_iff.mp (by rw [ly]; exact List.length_eq_zero_iff.mpr c)
      rw [e]
      refine iteT ?_
      exact no c H4 s14
    · have e : ys.isEmpty = false := by
        cases ys with
        | nil => exact absurd (List.length_eq_zero_iff.mp ly.symm) c
        | cons _ _ => rfl
      rw [e]
      refine iteF ?_
      have ok := sg.less c
      walk_at "st"
      with_reducible refine s_make ?_
      walk_at "st"
      intro x dy2 nx ndx ne
      exact make_ok nx ndx ne dz dy (wt_parts ok.good ok.few) (wt_parts ok.good2 ok.few2) ok.lets fun H5 s5 st5 => yes c H5 x (s14.trans s5) st5
end
end
end Z
/-! list(d.values()). -/
namespace Z
open PySem PySem.Spec PyProof.Rows L2 G PySem.W
/-- the view d.values() at p -/
def valsO (p d : Addr) : HO := .ext fun h => h.IsValuesView p d
theorem valsO_ok {P : Program} {w : World} {H : Hp} {h : Heap} {p d : Addr} (e : h.get? p = some { cls := .type "dict_values", data := .fields #[.ref d] }) : ObjOk P w H h p (valsO p d) :=
  ⟨⟨_, e, rfl, rfl⟩, ⟨_, e⟩, fun h1 h2 x k => let ⟨o, ho, r⟩ := x; ⟨o, k o ho, r⟩⟩
section
variable {X : Cx}
def rVals : V → List V → Hp → VK → Prop := fun x xs H Q => ∃ (a : Addr) (kvs : List (Key × V)), x = .ref a ∧ xs = [] ∧ H a = some (.dK kvs) ∧ ∀ p, H p = none → Q (.ref p) (upd H p (valsO p a))
theorem mt_vals : MtR X "dict.values" rVals := by
  intro pins s σ H x xs v us Q I rx rxs h
  obtain ⟨a, kvs, rfl, rfl, ha, q⟩ := h
  cases rx
  cases rxs
  obtain ⟨z, hd, vs, rel, dd⟩ := I.hok a _ ha
  refine call_meetsIn PySem.F.slot_dict_values dd.typeIs PySem.F.entry_dict_values (PySem.F.args_dict_values_1 _) (meets_dict_values (mixKind X.prog X.w) a hd) ⟨⟨vs, dd⟩, ?_⟩
  have hf : H s.heap.objs.size = none := I.hok.fresh (Nat.le_refl _)
  exact ⟨.ref s.heap.objs.size, upd H s.heap.objs.size (valsO s.heap.objs.size a), I.laid (t' := s.toks) (fun b u e => Heap.get?_push_of_some _ e) (Nat.le_refl _) (valsO_ok (Heap.get?_push_size _ rfl)), rfl, q _ hf⟩
theorem kv_vals : ∀ {kvs : List (Key × V)} {vs : List (Key × Value)}, KV kvs vs → Vals (kvs.map (·.2)) (vs.map (·.2))
  | [], [], _ => .nil
  | _ :: _, _ :: _, h => by
    cases h with
    | cons a b => exact .cons a.2 (kv_vals b)
def rListV : List V → Hp → VK → Prop := fun vs H Q => ∃ (p a : Addr) (kvs : List (Key × V)), vs = [.ref p] ∧ H p = some (valsO p a) ∧ H a = some (.dK kvs) ∧ kvs.length ≤ 1000 ∧ ∀ l, H l = none → Q (.ref l) (upd H l (.lst (kvs.map (·.2))))
theorem call_listV (hc : X.calm = true) : CallR X (.type "list") rListV := by
  intro pins s σ H xs us Q I r h
  obtain ⟨p, a, kvs, rfl, hp, ha, few, q⟩ := h
  obtain ⟨u, rfl, rx⟩ := vals1 r
  cases rx
  obtain ⟨z, hd, vs, rel, dd⟩ := I.hok a _ ha
  obtain ⟨vw, _, _⟩ := I.hok p _ hp
  obtain ⟨ep, hat⟩ := dd.dictAt
  have lv : vs.length = kvs.length := by
    have := (kv_vals rel).length
    rw [List.length_map, List.length_map] at this
    exact this.symm
  refine kdl_call (kdl_values (knd := mixKind X.prog X.w) (kvs := vs) (ep := ep)) (I.ok.hd hc) ⟨vw, hat⟩ (by rw [sizeLine_eq]; omega) ?_
  intro h' tk acc' c' keep hS its
  have e : acc'.toList = vs.map (·.2) := by
    have hs : acc'.size = vs.length := its.1
    refine List.ext_getElem? fun i => ?_
    by_cases c : i < vs.length
    · have ca : i < acc'.size := by omega
      obtain ⟨k, hk⟩ := its.2 i acc'[i] (Array.getElem?_eq_getElem ca)
      rw [List.getElem?_map, hk, Array.getElem?_toList, Array.getElem?_eq_getElem ca]
      rfl
    · rw [List.getElem?_eq_none (by rw [Array.length_toList]; omega), List.getElem?_eq_none (by rw [List.length_map]; omega)]
  refine ⟨.ref _, _, I.laid (t' := tk) (o := .lst (kvs.map (·.2))) keep (Nat.le_refl _) ⟨?_, acc'.toList, c', ?_, ?_⟩, rfl, q _ (I.hok.fresh (Nat.le_refl _))⟩
  · rw [List.length_map, sizeLine_eq]
    omega
  · rw [e]
    exact kv_vals rel
  · rw [hS]
end
end Z
local macro_rules | `(tactic| walk_at "st") => `(tactic| repeat (first
  | ((with_reducible refine' Z.s_var ?h ?_); (case h => exact rfl))
  | with_reducible refine Z.s_c ?_
  | with_reducible refine Z.s_op ?_
  | with_reducible refine Z.s_un ?_
  | with_reducible refine Z.s_nil ?_
  | with_reducible refine Z.s_cons ?_
  | with_reducible refine Z.s_cb ?_
  | with_reducible refine Z.s_call ?_
  | with_reducible refine Z.s_tup ?_
  | with_reducible refine Z.s_lst ?_
  | with_reducible refine Z.s_test ?_
  | with_reducible refine Z.s_B ?_
  | with_reducible refine Z.s_and ?_
  | with_reducible refine Z.s_or ?_
  | with_reducible refine Z.s_not ?_
  | with_reducible refine Z.s_andV ?_
  | with_reducible refine Z.s_orV ?_
  | with_reducible refine Z.s_notV ?_
  | with_reducible refine Z.s_if ?_
  | with_reducible refine Z.s_chain ?_
  | with_reducible refine Z.s_seq ?_
  | with_reducible refine Z.s_next ?_
  | with_reducible refine Z.s_drop ?_
  | with_reducible refine Z.s_ret ?_
  | with_reducible refine Z.s_ifS ?_
  | with_reducible refine Z.s_asg ?_
  | with_reducible refine Z.s_name ?_
  | with_reducible refine Z.s_par ?_
  | with_reducible refine Z.s_item ?_
  | with_reducible refine Z.s_part ?_
  | with_reducible refine Z.s_noPart ?_
  | with_reducible refine Z.s_cut ?_
  | with_reducible refine Z.s_bm0 ?_
  | with_reducible refine Z.s_bm ?_
  | with_reducible refine Z.s_bl (P := _) ?_
  | with_reducible refine Z.s_two (P := _) ?_
  | with_reducible refine Z.s_int (P := _) ?_
  | with_reducible refine Z.a_addI ?_
  | with_reducible refine Z.a_subI ?_
  | with_reducible refine Z.a_ltI ?_
  | with_reducible refine Z.a_leI ?_
  | with_reducible refine Z.a_gtI ?_
  | with_reducible refine Z.a_geI ?_
  | with_reducible refine Z.a_eqI ?_
  | with_reducible refine Z.a_neI ?_
  | with_reducible refine Z.a_eqS ?_
  | with_reducible refine Z.a_neS ?_
  | with_reducible refine Z.a_eqB ?_
  | with_reducible refine Z.a_neB ?_
  | with_reducible refine Z.a_isN ?_
  | with_reducible refine Z.a_notN ?_
  | with_reducible refine Z.a_setL ?_
  | with_reducible refine Z.a_int ?_
  | with_reducible refine Z.a_intB ?_
  | with_reducible refine Z.a_abs ?_
  | with_reducible refine Z.a_max ?_
  | with_reducible refine Z.a_min ?_
  | with_reducible refine Z.s_lc ?_
  | with_reducible refine Z.s_for ?_
  | with_reducible refine Z.s_iList ?_
  | with_reducible refine Z.s_iTup ?_
  | with_reducible refine Z.s_iStr ?_
  | with_reducible refine Z.s_rng1 ?_
  | with_reducible refine Z.s_rng2 ?_
  | with_reducible refine Z.s_gtup ?_
  | with_reducible refine Z.s_gcons ?_
  | with_reducible refine Z.s_gnil ?_
  | with_reducible refine Z.s_yes ?_
  | with_reducible refine Z.s_ref (P := _) ?_
  | with_reducible refine Z.s_str (P := _) ?_
  | with_reducible refine Z.s_one (P := _) ?_
  | with_reducible refine Z.s_m1 ?_
  | with_reducible refine Z.s_m0 ?_
  | with_reducible refine Z.s_isStr ?_))
namespace Z
open PySem PySem.Spec PyProof.Rows L2 G
section
variable {P : Program} {w : World} {K : PySem.W.Frag} {mg : Str → Option Value} {base : Heap}
/-- the new name that a dict gives -/
def rn (kvs : List (Key × V)) (z : Str) : Str := match valV kvs (.inr z : Key) with
  | some (.str y) => y
  | _ => z
/-- a dict that gives all these names different new ones -/
structure NewN (kvs : List (Key × V)) (zs : List Str) : Prop where
  len : kvs.length = zs.length
  few : zs.length ≤ 6
  at_ : ∀ z ∈ zs, valV kvs (.inr z : Key) = some (.str (rn kvs z)) ∧ nameB (rn kvs z) = true
  vals : ∃ ys : List Str, kvs.map (·.2) = oneOf ys ∧ ys.Nodup
def rnP (kvs : List (Key × V)) (ps : List (Str × Str)) : List (Str × Str) := ps.map fun p => (rn kvs p.1, p.2)
theorem valV_mem : ∀ {kvs : List (Key × V)} {k : Key} {v : V}, valV kvs k = some v → v ∈ kvs.map (·.2)
  | [], k, v, h => by cases h
  | p :: kvs, k, v, h => by
    by_cases c : p.1 = k
    · have e := (valV_pos c).symm.trans h
      rw [← Option.some.inj e]
      exact List.mem_cons_self
    · rw [valV_neg c] at h
      exact List.mem_cons_of_mem _ (valV_mem h)
theorem valV_inj : ∀ {kvs : List (Key × V)} {k1 k2 : Key} {v : V}, (kvs.map (·.2)).Nodup → valV kvs k1 = some v → valV kvs k2 = some v → k1 = k2
  | [], _, _, _, _, h, _ => by cases h
  | p :: kvs, k1, k2, v, nd, h1, h2 => by
    obtain ⟨n1, n2⟩ := List.nodup_cons.mp nd
    by_cases c1 : p.1 = k1
    · by_cases c2 : p.1 = k2
      · exact c1.symm.trans c2
      · rw [valV_neg c2] at h2
        have e := Option.some.inj ((valV_pos c1).symm.trans h1)
        exact absurd (valV_mem h2) (by rw [← e]; exact n1)
    · by_cases c2 : p.1 = k2
      · rw [valV_neg c1] at h1
        have e := Option.some.inj ((valV_pos c2).symm.trans h2)
        exact absurd (valV_mem h1) (by rw [← e]; exact n1)
      · rw [valV_neg c1] at h1
        rw [valV_neg c2] at h2
        exact valV_inj n2 h1 h2
theorem nodup_map_on {α β : Type} {f : α → β} : ∀ {l : List α}, (∀ x ∈ l, ∀ y ∈ l, f x = f y → x = y) → l.Nodup → (l.map f).Nodup
  | [], _, _ => List.nodup_nil
  | x :: l, h, nd => by
    obtain ⟨n1, n2⟩ := List.nodup_cons.mp nd
    refine List.nodup_cons.mpr ⟨fun m => ?_, nodup_map_on (fun a ha b hb => h a (List.mem_cons_of_mem _ ha) b (List.mem_cons_of_mem _ hb)) n2⟩
    obtain ⟨y, hy, e⟩ := List.mem_map.mp m
    exact n1 (by rw [h x List.mem_cons_self y (List.mem_cons_of_mem _ hy) e.symm]; exact hy)
theorem NewN.nd {kvs : List (Key × V)} {zs : List Str} (h : NewN kvs zs) : (kvs.map (·.2)).Nodup := by
  obtain ⟨ys, e, nd⟩ := h.vals
  rw [e]
  exact nodup_map_on (fun x _ y _ e => V.str.inj e) nd
theorem NewN.inj {kvs : List (Key × V)} {zs : List Str} (h : NewN kvs zs) : ∀ x ∈ zs, ∀ y ∈ zs, rn kvs x = rn kvs y → x = y := by
  intro x hx y hy e
  have a := (h.at_ x hx).1
  have b := (h.at_ y hy).1
  rw [← e] at b
  exact Sum.inr.inj (valV_inj h.nd a b)
theorem Strm.rn {ps qs : List (Str × Str)} {kvs : List (Key × V)} (h : Strm ps qs) (g : NewN kvs ((ps ++ qs).map (·.1))) : Strm (rnP kvs ps) (rnP kvs qs) where
  one := by
    unfold rnP
    rw [List.length_map]
    exact h.one
  few := by
    unfold rnP
    rw [List.length_map]
    exact h.few
  few2 := by
    unfold rnP
    rw [List.length_map]
    exact h.few2
  nd := by
    have e : (rnP kvs ps ++ rnP kvs qs).map (·.1) = ((ps ++ qs).map (·.1)).map (Z.rn kvs) := by
      unfold rnP
      rw [← List.map_append, List.map_map, List.map_map]
      rfl
    rw [e]
    exact nodup_map_on g.inj h.nd
  good := by
    intro p hp
    obtain ⟨q, hq, rfl⟩ := List.mem_map.mp hp
    exact ⟨(g.at_ q.1 (List.mem_map.mpr ⟨q, List.mem_append_left _ hq, rfl⟩)).2, (h.good q hq).2⟩
  good2 := by
    intro p hp
    obtain ⟨q, hq, rfl⟩ := List.mem_map.mp hp
    exact ⟨(g.at_ q.1 (List.mem_map.mpr ⟨q, List.mem_append_right _ hq, rfl⟩)).2, (h.good2 q hq).2⟩
theorem s_din {td ty : TE} {σ : L2.St} {H : Hp} {Q : VK} (q : ty σ H fun y H1 => td σ H1 fun x H2 => ∃ a o, x = .ref a ∧ DGet H2 a y o ∧ Q (.bl o.isSome) H2) : tDIn ty td σ H Q := q
/-- are these new names? yes -/
def spNewN (K : PySem.W.Frag) (C : Addr) : Sp := fun vs H Q _ => ∃ a d ps qs kvs, vs = [.ref a, .ref d] ∧ StAt K C H a ps qs ∧ H d = some (.dK kvs) ∧ NewN kvs ((ps ++ qs).map (·.1)) ∧ ∀ H1, Same H H1 → Q (.bl true) H1
abbrev sStreams__are_new_names : Stmt := inClass (topS 20) 13
theorem scStreams__are_new_names : FnScope ["self", "value", "name"] ["self", "value"] (defScope sStreams__are_new_names) := ⟨rfl, rfl, rfl, by decide +kernel, rfl, by decide +kernel, by decide +kernel⟩
theorem ok_new_names {f C fn fl : Addr} {fd fdn fdl : FuncData} (T : Txt2 mg) (N8 : Num mg "MAX_NAME" 8) (SC : StrmC K C) (M : MethAt K C "_are_new_names" "Streams._are_new_names" sStreams__are_new_names ["self", "value"] f fd) (Dis_name : Def K mg "is_name" sis_name ["value"] fn fdn) (Dare_letters : Def K mg "are_letters" sare_letters ["text"] fl fdl) : FnOk P w K mg base CX0 3 f fd ["self", "value"] (spNewN K C) := by
  have Gis_name : FnOk P w K mg base CX0 2 fn fdn ["value"] (spJudge K nmD) := ok_is_name T N8 Dis_name Dare_letters
  refine M.F.ok scStreams__are_new_names (fun vs H Q E h => ?_) (fun cdv A outer s H vs Q E hr h => ?_)
  · obtain ⟨a, d, ps, qs, kvs, rfl, _⟩ := h
    rfl
  · obtain ⟨a, d, ps, qs, kvs, rfl, ⟨dx, v, u, n, m, o, h1, h2, h3, ⟨po, h4⟩, h5⟩, hd, nw, k⟩ := h
    have hu := hr.units
    have l1 := nw.len
    have l6 := nw.few
    generalize ezs : (ps ++ qs).map (·.1) = zs at h4 nw l1 l6
    refine ⟨_, (pss_cons (ps_if (PW.pt (pw_or (pt_not (pt_val (pe_callB (Z.k_is (K := K)) (by rfl) T.isinstance (by decide +kernel) (pa_cons (pv 1) (pa_cons (pe_bltn (v := .ty "dict") (by rfl) T.dict (by decide +kernel) rfl) pa_nil))))) (pw_or1 (pt_cmpR (Z.k_ne (K := K) hu) (pe_callB (Z.k_len (K := K)) (by rfl) T.len (by decide +kernel) (pa_cons (pv 1) pa_nil)) (pe_callB (Z.k_len (K := K)) (by rfl) T.len (by decide +kernel) (pa_cons (pe_fld (pv 0) rfl) pa_nil)) (nomark _)))))
  (pss_one (ps_ret pe_bl))
  pss_nil)
 (pss_cons (ps_if (pt_not (pt_val (pe_callB (Z.k_all (K := K) rfl) (by rfl) T.all (by decide +kernel) (pa_cons (pe_lc (own := [("name", 2)]) (by rfl) scStreams__are_new_names.nd (pi_tup (pe_fld (pv 0) rfl)) (blkOk_by (own := [("name", 2)]) (N := ["self", "value", "name"]) (sc := defScope sStreams__are_new_names) (by decide +kernel))
   (fun _ _ _ _ _ => (pg_name (i := 2) scStreams__are_new_names.nd rfl (by first | exact Or.inl rfl | exact Or.inr rfl))) (fun _ _ _ _ _ => pts_nil) (fun _ _ _ _ _ => (pe_and (pe_cmp (pc_din (hu_of hr) (pv 2) (pv 1)) (by rfl)) (pe_one (pe_call Gis_name (hr.mono (by decide)) (by rfl) Dis_name.g Dis_name.F.kp Dis_name.b .nil pass0 (pa_cons (pe_dget (hu_of hr) (pv 1) (pv 2) (fun _ _ => rfl)) pa_nil)))))) pa_nil))))
  (pss_one (ps_ret pe_bl))
  pss_nil)
 (pss_one (ps_ret (pe_cmpR (Z.k_eq (K := K) hu) (Z.k_lenSet (K := K) rfl (by rfl) T.len (by rfl) T.set (pe_callTy (Z.call_listV rfl) (by rfl) T.list (by decide +kernel) (pa_cons (Z.k_bm0 (K := K) PySem.F.plainAttrs_dict PySem.F.slot_dict_values PySem.F.type_dict_values Z.mt_vals (pv 1)) pa_nil))) (pe_callB (Z.k_len (K := K)) (by rfl) T.len (by decide +kernel) (pa_cons (pv 1) pa_nil)) (nomark _)))))), ?_⟩
    walk_at "st"
    refine ⟨.type "dict", true, .base (.dK hd), kit_ty (by decide +kernel), ?_⟩
    refine s_bl (P := _) ?_
    refine iteF ?_
    walk_at "st"
    refine .inr ⟨kvs, hd, ?_⟩
    walk_at "st"
    with_reducible refine s_fld ?_
    walk_at "st"
    refine ⟨a, C, dx, _, _, rfl, h1, SC.cl, SC.n3, sF_3 _ _ _ _, ?_⟩
    walk_at "st"
    refine .inl ⟨_, .inr (sqt_frz h4), ?_⟩
    walk_at "st"
    rw [List.length_map, decide_eq_true (show ((kvs.length : Nat) : Int) = ((zs.length : Nat) : Int) by omega)]
    refine iteF ?_
    walk_at "st"
    with_reducible refine s_fld ?_
    walk_at "st"
    refine ⟨a, C, dx, _, _, rfl, h1, SC.cl, SC.n3, sF_3 _ _ _ _, ?_⟩
    refine ⟨n, rfl, ⟨_, sqt_frz h4⟩, comp (walkT (xs := oneOf zs)) (Same H) (fun i acc H2 => acc = (List.replicate i true).map V.bl) (Same.refl H) (fun L o H2 e m => same_upd m e) (fun _ _ _ _ _ _ _ h => h) rfl (fun _ _ H2 m _ => sqt_frz (m _ _ h4)) ?_ ?_⟩
    · rintro L i acc x H2 fresh hi hx len m2 at_ rfl
      have hi2 : i < zs.length := by
        rw [List.length_map] at hi
        exact hi
      have ex : x = .str zs[i] := by
        rw [List.getElem?_map, List.getElem?_eq_getElem hi2] at hx
        exact (Option.some.inj hx).symm
      rw [ex]
      obtain ⟨v1, v2⟩ := nw.at_ zs[i] (List.getElem_mem hi2)
      have hd2 := m2 _ _ hd
      have g := DGet.k (k := (.inr zs[i] : Key)) hd2
      rw [v1] at g
      refine turn1 rfl ?_
      walk_at "st"
      with_reducible refine s_din ?_
      walk_at "st"
      refine ⟨d, _, rfl, g, ?_⟩
      refine s_bl (P := _) ?_
      refine iteT ?_
      walk_at "st"
      with_reducible refine s_dget ?_
      walk_at "st"
      refine ⟨d, _, rfl, g, ?_⟩
      walk_at "st"
      refine ⟨_, .str (rn kvs zs[i]), rfl, .str _, fun z e => ?_, fun H3 m3 => ?_⟩
      · cases e
        obtain ⟨_, l8, _⟩ := wordB_len (n := 8) (z := rn kvs zs[i]) (by unfold nameB at v2; rw [Bool.and_eq_true] at v2; exact v2.1)
        omega
      rw [show nmD (.str (rn kvs zs[i])) = true from v2]
      refine put fresh (fun L o H2 e m => same_upd m e) (fun _ _ _ _ _ _ _ h => h) (m3 _ _ at_) (by omega) len (m2.trans m3) ?_
      rw [List.replicate_succ', List.map_append]
      rfl
    · rintro L acc H2 fresh len m2 at_ rfl
      walk_at "st"
      refine ⟨List.replicate (oneOf zs).length true, SqL.of at_, ?_⟩
      have e : (List.replicate (oneOf zs).length true).all id = true := by
        rw [List.all_eq_true]
        intro b hb
        rw [List.eq_of_mem_replicate hb]
        rfl
      rw [e]
      walk_at "st"
      refine iteF ?_
      walk_at "st"
      have hd2 := m2 _ _ hd
      with_reducible refine s_lenSet ?_
      walk_at "st"
      refine ⟨.inr (.inr (.inl ⟨rfl, .inl ⟨kvs, hd2⟩⟩)), ?_⟩
      refine ⟨d, kvs, rfl, rfl, hd2, fun p np => ?_⟩
      walk_at "st"
      have hd3 : upd H2 p (valsO p d) d = some (.dK kvs) := by
        rw [upd_ne (ne_of_none hd2 np)]
        exact hd2
      refine ⟨p, d, kvs, rfl, upd_same, hd3, by omega, fun l nl => ?_⟩
      obtain ⟨ys, e2, nd⟩ := nw.vals
      have ly : ys.length = kvs.length := by
        have := congrArg List.length e2
        rw [List.length_map, List.length_map] at this
        exact this.symm
      rw [e2]
      refine ⟨l, ys, rfl, SqL.of upd_same, by omega, ?_⟩
      walk_at "st"
      have hd4 : upd (upd H2 p (valsO p d)) l (.lst (oneOf ys)) d = some (.dK kvs) := by
        rw [upd_ne (ne_of_none hd3 nl)]
        exact hd3
      refine .inr ⟨kvs, hd4, ?_⟩
      walk_at "st"
      have e3 : decide (((ded ys ys.length).length : Int) = (kvs.length : Nat)) = true := by
        rw [← ly, ded_full]
        exact decide_eq_true nd
      rw [e3]
      exact k _ (same_new (same_new m2 np) nl)
/-- new names for pairs -/
theorem comp_rn {σ : L2.St} {vs : List Nat} {i j id : Nat} {p d : Addr} {xs : List V} {ps : List (Str × Str)} {kvs : List (Key × V)} {H : Hp} {Q : VK} (hx : SqT K H p xs) (hd : DzAll K H xs (ps.map prD)) (few : ps.length ≤ 1000) (dk : H d = some (.dK kvs)) (good : ∀ q ∈ ps, valV kvs (.inr q.1 : Key) = some (.str (rn kvs q.1)))
    (hw : ∀ x y, wipe (((wipe σ vs).set i (some x)).set j (some y)) vs = wipe σ vs) (hi : ∀ x y, (((wipe σ vs).set i (some x)).set j (some y))[i]? = some (some x)) (hj : ∀ x y, (((wipe σ vs).set i (some x)).set j (some y))[j]? = some (some y)) (hid : ∀ x y, (((wipe σ vs).set i (some x)).set j (some y))[id]? = some (some (.ref d)))
    (done : ∀ L H2 ys, H L = none → Same H H2 → H2 L = some (.lst ys) → DzAll K H2 ys ((rnP kvs ps).map prD) → Q (.ref L) H2) :
    CompOk (Itt K p) (gTup K 2 (gCons (gName i) (gCons (gName j) gNil))) tYes (tTup (tCons (tDGet (tVar id) (tVar i)) (tCons (tVar j) tNil))) vs σ H Q := by
  have many : xs.length = ps.length := by
    rw [hd.len, List.length_map]
  refine comp2 (walkT (xs := xs)) (Same H) (fun L n acc H2 => DzAll K (Z.hid L H2) acc ((rnP kvs (ps.take n)).map prD)) (Same.refl H) (fun L o H2 e m => same_upd m e) ?_ (fun _ _ => .nil) (fun H2 m => same_sqt m hx) ?_ ?_
  · intro L o i acc H2 e _ dz
    rw [hid_upd]
    exact dz
  · rintro L n acc x H2 fresh hn hxi len m at_ dz
    have ln : n < ps.length := by omega
    obtain ⟨d1, hdi, dx⟩ := hd.get hxi
    rw [List.getElem?_map, List.getElem?_eq_getElem ln] at hdi
    have ed : d1 = prD ps[n] := (Option.some.inj hdi).symm
    rw [ed] at dx
    obtain ⟨a, zs, rfl, ha, hz⟩ := dx.tuple
    cases hz with
    | cons q1 q =>
      cases q with
      | cons q2 q =>
        cases q
        cases q1
        cases q2
        have g := DGet.k (k := (.inr ps[n].1 : Key)) (m _ _ dk)
        rw [good ps[n] (List.getElem_mem ln)] at g
        refine ⟨_, [.str ps[n].1, .str ps[n].2], rfl, same_sqt m ha, rfl, ?_⟩
        refine s_gcons (s_name (s_gcons (s_name (s_gnil ?_))))
        refine ⟨hw _ _, s_yes (iteT ?_)⟩
        refine s_tup (s_cons (s_dget (s_var (hid _ _) (s_var (hi _ _) ⟨d, _, rfl, g, ?_⟩))))
        refine s_cons (s_var (hj _ _) (s_nil ⟨by show 2 ≤ sizeLine; decide, fun t nt => ?_⟩))
        have tL : t ≠ L := (ne_of_none at_ nt).symm
        refine put2 (acc := acc) (fun o H6 m6 => same_upd m6 fresh) ?_ (by rw [upd_ne tL.symm]; exact at_) (by omega) len (same_new m nt) ?_
        · intro o i acc H6 _ q
          rw [hid_upd]
          exact q
        · unfold rnP at dz ⊢
          rw [List.take_add_one, List.getElem?_eq_getElem ln, List.map_append, List.map_append]
          refine DzAll.app (DzAll.same (same_hidden (same_new (Same.refl H2) nt)) _ _ dz) ?_
          refine .cons (.tup (SqT.of ?_) (.cons (.str _) (.cons (.str _) .nil))) .nil
          rw [hid_ne tL, upd_same]
  · rintro L acc H2 fresh len m at_ dz
    rw [many, List.take_length] at dz
    exact done L H2 acc fresh m at_ (DzAll.same same_hid _ _ dz)
/-- other names -/
def spRen (K : PySem.W.Frag) (C : Addr) : Sp := fun vs H Q _ => ∃ a d ps qs kvs, vs = [.ref a, .ref d] ∧ StAt K C H a ps qs ∧ Strm ps qs ∧ H d = some (.dK kvs) ∧ NewN kvs ((ps ++ qs).map (·.1)) ∧ ∀ H1 p, Same H H1 → StAt K C H1 p (rnP kvs ps) (rnP kvs qs) → Q (.ref p) H1
abbrev sStreams_renamed : Stmt := inClass (topS 20) 12
theorem scStreams_renamed : FnScope ["self", "names", "sources", "sinks", "name", "signs"] ["self", "names"] (defScope sStreams_renamed) := ⟨rfl, rfl, rfl, by decide +kernel, rfl, by decide +kernel, by decide +kernel⟩
section
variable {f fnn fI C CI fas fk fst fn fs fl : Addr} {fd fdnn fdI fdas fdk fdst fdn fds fdl : FuncData}
theorem ok_renamed (T : Txt2 mg) (N8 : Num mg "MAX_NAME" 8) (N4 : Num mg "MAX_SIGNS" 4) (N3 : Num mg "MAX_KIND" 3) (M : MethAt K C "renamed" "Streams.renamed" sStreams_renamed ["self", "names"] f fd) (M_are_new_names : MethAt K C "_are_new_names" "Streams._are_new_names" sStreams__are_new_names ["self", "value"] fnn fdnn)
    (MStreams : Mk K C fI) (F : Fun K "__init__" "Streams.__init__" sStreams___init__ fI fdI) (bStreams : Binds K fdI ["self", "sources", "sinks"] []) (gStreams : mg "Streams" = some (.ref C)) (SC : StrmC K C) (XInvalidStreams : Err K mg "InvalidStreams" CI)
    (D_are_streams : Def K mg "_are_streams" s_are_streams ["sources", "sinks"] fas fdas) (D_are_kind : Def K mg "_are_kind" s_are_kind ["value", "fewest"] fk fdk) (D_is_stream : Def K mg "_is_stream" s_is_stream ["value"] fst fdst)
    (Dis_name : Def K mg "is_name" sis_name ["value"] fn fdn) (Dis_signs : Def K mg "is_signs" sis_signs ["value"] fs fds) (Dare_letters : Def K mg "are_letters" sare_letters ["text"] fl fdl) : FnOk P w K mg base (L2.CX P w) 8 f fd ["self", "names"] (spRen K C) := by
  have GStreams : FnOk P w K mg base (L2.CX P w) 6 fI fdI ["self", "sources", "sinks"] (spStreams K C CI) := ok_streams T N8 N4 N3 F SC XInvalidStreams D_are_streams D_are_kind D_is_stream Dis_name Dis_signs Dare_letters
  have G_are_new_names : FnOk P w K mg base CX0 3 fnn fdnn ["self", "value"] (spNewN K C) := ok_new_names T N8 SC M_are_new_names Dis_name Dare_letters
  refine M.F.okX scStreams_renamed (fun vs H Q E h => ?_) (fun cdv A outer s H vs Q E hr h => ?_)
  · obtain ⟨a, d, ps, qs, kvs, rfl, _⟩ := h
    rfl
  · obtain ⟨a, d, ps, qs, kvs, rfl, st, sg, hd, nw, k⟩ := h
    obtain ⟨dx, v, u, n, m, o, h1, h2, h3, h4, h5⟩ := id st
    have hu := hr.units
    refine ⟨_, (pss_cons (ps_if (pt_not (pt_val (pe_meth (pv 0) SC.cl M_are_new_names.meth G_are_new_names (hr.mono (by decide)) M_are_new_names.b .nil pass0 (pa_cons (pv 1) pa_nil))))
  (pss_one ps_never)
  pss_nil)
 (pss_cons (ps_set (i := 2) scStreams_renamed.nd rfl (by first | exact Or.inl rfl | exact Or.inr rfl) (pe_callTy (Z.k_tuple (K := K)) (by rfl) T.tuple (by decide +kernel) (pa_cons (pe_lc (own := [("name", 4), ("signs", 5)]) (by rfl) scStreams_renamed.nd (pi_tup (pe_fld (pv 0) rfl)) (blkOk_by (own := [("name", 4), ("signs", 5)]) (N := ["self", "names", "sources", "sinks", "name", "signs"]) (sc := defScope sStreams_renamed) (by decide +kernel))
   (fun _ _ _ _ _ => (Z.k_tup (K := K) (n := 2) rfl (pgs_cons (pg_name (i := 4) scStreams_renamed.nd rfl (by first | exact Or.inl rfl | exact Or.inr rfl)) (pgs_cons (pg_name (i := 5) scStreams_renamed.nd rfl (by first | exact Or.inl rfl | exact Or.inr rfl)) pgs_nil)))) (fun _ _ _ _ _ => pts_nil) (fun _ _ _ _ _ => (pe_tup (pa_cons (pe_dget (hu_of hr) (pv 1) (pv 4) (fun _ _ => rfl)) (pa_cons (pv 5) pa_nil))))) pa_nil)))
 (pss_cons (ps_set (i := 3) scStreams_renamed.nd rfl (by first | exact Or.inl rfl | exact Or.inr rfl) (pe_callTy (Z.k_tuple (K := K)) (by rfl) T.tuple (by decide +kernel) (pa_cons (pe_lc (own := [("name", 4), ("signs", 5)]) (by rfl) scStreams_renamed.nd (pi_tup (pe_fld (pv 0) rfl)) (blkOk_by (own := [("name", 4), ("signs", 5)]) (N := ["self", "names", "sources", "sinks", "name", "signs"]) (sc := defScope sStreams_renamed) (by decide +kernel))
   (fun _ _ _ _ _ => (Z.k_tup (K := K) (n := 2) rfl (pgs_cons (pg_name (i := 4) scStreams_renamed.nd rfl (by first | exact Or.inl rfl | exact Or.inr rfl)) (pgs_cons (pg_name (i := 5) scStreams_renamed.nd rfl (by first | exact Or.inl rfl | exact Or.inr rfl)) pgs_nil)))) (fun _ _ _ _ _ => pts_nil) (fun _ _ _ _ _ => (pe_tup (pa_cons (pe_dget (hu_of hr) (pv 1) (pv 4) (fun _ _ => rfl)) (pa_cons (pv 5) pa_nil))))) pa_nil)))
 (pss_one (ps_ret (pe_make (E := fun _ _ _ => False) MStreams GStreams (hr.mono (by decide)) (by rfl) gStreams bStreams .nil (passes_call (takes_of rfl rfl rfl rfl) fun _ _ _ _ h => h.elim) (pa_cons (pv 2) (pa_cons (pv 3) pa_nil)))))))), ?_⟩
    walk_at "st"
    with_reducible refine s_meth ?_
    walk_at "st"
    refine ⟨a, dx, _, rfl, h1, sF_no (by decide +kernel) (by decide +kernel) (by decide +kernel) (by decide +kernel), ?_⟩
    walk_at "st"
    refine ⟨a, d, ps, qs, kvs, rfl, st, hd, nw, fun H0 s0 => ?_⟩
    refine s_bl (P := _) ?_
    refine iteF ?_
    obtain ⟨va, xs1, rfl, a1, d1⟩ := h2.tuple
    obtain ⟨ua, ys1, rfl, a2, d2⟩ := h3.tuple
    have good : ∀ q ∈ ps ++ qs, valV kvs (.inr q.1 : Key) = some (.str (rn kvs q.1)) := fun q hq => (nw.at_ q.1 (List.mem_map.mpr ⟨q, hq, rfl⟩)).1
    walk_at "st"
    with_reducible refine s_fld ?_
    walk_at "st"
    refine ⟨a, C, dx, _, _, rfl, s0 _ _ h1, SC.cl, SC.n1, sF_1 _ _ _ _, ?_⟩
    refine ⟨va, rfl, ⟨_, same_sqt s0 a1⟩, comp_rn (kvs := kvs) (ps := ps) (same_sqt s0 a1) (DzAll.same s0 _ _ d1) (by have := sg.few; omega) (s0 _ _ hd) (fun q hq => good q (List.mem_append_left _ hq)) (fun _ _ => rfl) (fun _ _ => rfl) (fun _ _ => rfl) (fun _ _ => rfl) ?_⟩
    intro L1 H1 ys fresh1 s1 at1 e1
    walk_at "st"
    refine ⟨_, .inl ⟨SqL.of at1, fun p1 np1 => ?_⟩⟩
    generalize g1 : upd H1 p1 _ = H2
    have s2 : Same H1 H2 := by rw [← g1]; exact same_new (Same.refl H1) np1
    have t1 : SqT K H2 p1 ys := by rw [← g1]; exact SqT.of upd_same
    have e1' := DzAll.same s2 _ _ e1
    have s12 := s0.trans (s1.trans s2)
    walk_at "st"
    with_reducible refine s_fld ?_
    walk_at "st"
    refine ⟨a, C, dx, _, _, rfl, s12 _ _ h1, SC.cl, SC.n2, sF_2 _ _ _ _, ?_⟩
    refine ⟨ua, rfl, ⟨_, same_sqt s12 a2⟩, comp_rn (kvs := kvs) (ps := qs) (same_sqt s12 a2) (DzAll.same s12 _ _ d2) (by have := sg.few2; omega) (s12 _ _ hd) (fun q hq => good q (List.mem_append_right _ hq)) (fun _ _ => rfl) (fun _ _ => rfl) (fun _ _ => rfl) (fun _ _ => rfl) ?_⟩
    intro L2 H3 zs fresh2 s3 at2 e2
    walk_at "st"
    refine ⟨_, .inl ⟨SqL.of at2, fun p2 np2 => ?_⟩⟩
    generalize g2 : upd H3 p2 _ = H4
    have s4 : Same H3 H4 := by rw [← g2]; exact same_new (Same.refl H3) np2
    have t2 : SqT K H4 p2 zs := by rw [← g2]; exact SqT.of upd_same
    have s24 := s3.trans s4
    have s14 := s12.trans s24
    have dz : Dz K H4 (.ref p1) (.tuple ((rnP kvs ps).map prD)) := .tup (same_sqt s24 t1) (DzAll.same s24 _ _ e1')
    have dy : Dz K H4 (.ref p2) (.tuple ((rnP kvs qs).map prD)) := .tup t2 (DzAll.same s4 _ _ e2)
    have ok := sg.rn nw
    walk_at "st"
    with_reducible refine s_make ?_
    walk_at "st"
    intro x dy2 nx ndx ne
    exact make_ok nx ndx ne dz dy (wt_parts ok.good ok.few) (wt_parts ok.good2 ok.few2) ok.lets fun H5 s5 st5 => k H5 x (s14.trans s5) st5
end
end
end Z
/-! o != p by an own __eq__ and object's __ne__; o == xs, a list. -/
namespace Z
open PySem PySem.Spec PyProof.Rows L2 G
section
variable {prog : Program} {w : World} {A : Around} {E : Value → Shared → Prop} {s : Shared} {K : PySem.W.Frag} {x y C f : Addr} {b : Value} {ox oy : Obj} {od od2 : Option Obj}
theorem ifBound_objNe {M : Model} {args : List Value} {Q : Option Value → Shared → Prop} (inK : K.In s.heap) (I : PySem.W.InstAt s.heap x ox C od) (hs : PySem.W.findIn K (.ref C) "__ne__" = some (some (.builtin "object.__ne__")))
    (h : wpAny M A (call (.builtin "object.__ne__") (.ref x :: args)) (fun v => Q (some v)) E s) : wpAny M A (callSpecialIfBound? (.ref x) "__ne__" args) Q E s := by
  simp only [callSpecialIfBound?, bindSpecialIfBound?]
  refine wpAny_holding (wpAny_bind (wpAny_bind (wpAny_bind (I.type.here ((PySem.W.looks_findIn inK hs).here ?_)))))
  refine wpAny_bind (wpAny_askSetting (wpAny_ite ?_))
  have fin : wpAny M A (call (.builtin "object.__ne__") ([.ref x] ++ args) >>= fun v => pure (some v)) Q E s := wpAny_bind (wpAny_mono h (fun v s' h' => wpAny_pure h') fun _ _ h' => h')
  split
  · exact wpAny_bind (wpAny_of_eq (PySem.F.cmp_object.ne.bind _) (wpAny_pure (by exact fin)))
  · exact wpAny_tryCatch (wpAny_bind (wpAny_of_eq (PySem.F.cmp_object.ne.bind _) (wpAny_pure (by exact fin))))
theorem ne_entry (inK : K.In s.heap) (J : PySem.W.InstAt s.heap x ox C od) (at_ : PySem.W.findIn K (.ref C) "__eq__" = some (some (.ref f))) (fn : PySem.W.isFn K (.ref f) = true) (hu : A.units < cLine) {Q : Fin → Shared → Prop}
    (hcall : wpAny (model prog w) A (call (.ref f) [.ref x, .ref y]) (fun v s' => ∃ k, v = .bool k ∧ Q (.done (.ret (.bool (!k)))) s') E s) : wpAny (model prog w) A (Builtin.«object.__ne__» ⟨[.ref x, .ref y], []⟩) Q E s := by
  unfold Builtin.«object.__ne__»
  repeat (first
    | with_reducible refine wpAny_cRoomFor hu ?_
    | (refine wpAny_bind (m := callSpecialIfBound? (.ref x) (Str.ofString "__eq__") [.ref y])
        (PySem.W.ifBound_K inK J at_ fn (wpAny_mono hcall (fun r s' hr => by
          obtain ⟨k, rfl, hq⟩ := hr
          repeat (first | exact hq | exact wpAny_pure hq | exact wpAny_truthy_bool hq | (refine wpAny_bind (m := truthy (.bool _)) (wpAny_truthy_bool ?_)) | wp_step)) fun _ _ e => e)))
    | wp_step)
theorem ne_own {Q : Value → Shared → Prop} (hu : A.units + 1 < cLine) (inK : K.In s.heap) (J : PySem.W.InstAt s.heap x ox C od) (J2 : PySem.W.InstAt s.heap y oy C od2) (hm : PySem.W.mroIn K C (.type "object") = some true) (hs : PySem.W.findIn K (.ref C) "__ne__" = some (some (.builtin "object.__ne__")))
    (at_ : PySem.W.findIn K (.ref C) "__eq__" = some (some (.ref f))) (fn : PySem.W.isFn K (.ref f) = true)
    (h : wpAny (model prog w) A.in1 (call (.ref f) [.ref x, .ref y]) (fun v s' => ∃ k, v = .bool k ∧ Q (.bool (!k)) s') E s) : wpAny (model prog w) A (richCompare .NotEq (.ref x) (.ref y)) Q E s := by
  have one : wpAny (model prog w) A (tryCompare (.ref x) "__ne__" (.ref y)) (fun r s' => ∃ v, r = some v ∧ Q v s') E s := by
    unfold tryCompare
    refine wpAny_bind (ifBound_objNe inK J hs (wpAny_call (codeAny_call_builtin PySem.F.cmp_object.ne.plain PySem.F.cmpEntry_ne (PySem.W.check_slot PySem.F.cmpKind_ne PySem.F.cmpSplit_ne (J.type.andThen (PySem.W.looks_mroIn inK hm)) (PySem.F.cmpArgs_ne _ _)
      (ne_entry (A := A.in1) inK J at_ fn hu (wpAny_mono h (fun v s' hv => ?_) fun _ _ e => e))))))
    obtain ⟨k, rfl, hq⟩ := hv
    first | exact ⟨k, rfl, wpAny_pure ⟨_, rfl, hq⟩⟩ | exact ⟨k, rfl, wpAny_pure (wpAny_pure ⟨_, rfl, hq⟩)⟩ | exact ⟨k, rfl, ⟨_, rfl, hq⟩⟩
  unfold richCompare
  simp only [oneThing_ref]
  refine wpAny_holding (wpAny_bind (wpAny_cRoomFor (Nat.lt_of_succ_lt hu) ?_))
  rw [cmpInfo_NotEq]
  dsimp only
  refine wpAny_bind (J.type.here (wpAny_bind (J2.type.here ?_)))
  rw [show (Value.ref C != Value.ref C) = false from by simp]
  simp only [Bool.false_eq_true, if_false]
  refine wpAny_bind (wpAny_pure ?_)
  simp only [Bool.false_eq_true, if_false]
  refine wpAny_bind (wpAny_mono one (fun r s' z => ?_) fun _ _ e => e)
  obtain ⟨v, rfl, hq⟩ := z
  exact wpAny_pure hq
end
section
variable {X : Cx} {CX : CXT} {n : Nat} {f C : Addr} {fd : FuncData} {ps : List Str} {sp : Sp} {E : XK}
def rNeO (C : Addr) (sp : Sp) (E : XK) : R2 := fun x y H Q => ∃ a b dx dy fs gs, x = .ref a ∧ y = .ref b ∧ H a = some (.ins C dx fs) ∧ H b = some (.ins C dy gs) ∧ sp [.ref a, .ref b] H (fun v H1 => ∃ k, v = .bl k ∧ Q (.bl (!k)) H1) E
theorem op_neO (F : FnOk X.prog X.w X.K X.mg X.base CX n f fd ps sp) (room : Room (n + 1) X.A) (at_ : PySem.W.findIn X.K (.ref C) "__eq__" = some (some (.ref f))) (fn : PySem.W.isFn X.K (.ref f) = true) (hm : PySem.W.mroIn X.K C (.type "object") = some true) (hs : PySem.W.findIn X.K (.ref C) "__ne__" = some (some (.builtin "object.__ne__"))) (b : Binds X.K fd ps []) (hx : Passes CX X E) : OpR X (compareOp .NotEq) (rNeO C sp E) := by
  intro pins s σ H x y v u Q I rx ry h
  obtain ⟨a, c, dx, dy, fs, gs, rfl, rfl, ha, hc, q⟩ := h
  cases rx
  cases ry
  obtain ⟨mA, J, _⟩ := ins_get I.hok ha
  obtain ⟨od, J, _⟩ := J.look
  obtain ⟨mB, J2, _⟩ := ins_get I.hok hc
  obtain ⟨od2, J2, _⟩ := J2.look
  show wpAny _ _ (richCompare .NotEq _ _) _ _ _
  refine ne_own (by have := room.un; omega) I.kIn J J2 hm hs at_ fn ?_
  refine wpAny_mono (run_at (vs := [.ref a, .ref c]) F room.in1 rfl b hx I (.cons rfl (.cons rfl .nil)) q) ?_ fun _ _ z => z
  rintro r s1 ⟨w, H1, I1, rv, k, ek, q1⟩
  subst ek
  cases rv
  exact ⟨k, rfl, .bl (!k), H1, I1, rfl, q1⟩
theorem sub_list {K : PySem.W.Frag} : PySem.W.subIn K (.type "list") (.ref C) = some false := by
  have e : fastBuiltinMro "list" = some [.type "list", .type "object"] := by decide +kernel
  show (fastBuiltinMro "list").map (·.contains (.ref C)) = some false
  rw [e]
  first
    | rfl
    | simp
/-- o == xs, a list, by an own __eq__ -/
def rEqL (C : Addr) (sp : Sp) (E : XK) : R2 := fun x y H Q => ∃ a b dx fs xs, x = .ref a ∧ y = .ref b ∧ H a = some (.ins C dx fs) ∧ H b = some (.lst xs) ∧ sp [.ref a, .ref b] H (fun v H1 => ∃ k, v = .bl k ∧ Q (.bl k) H1) E
theorem op_eqL (F : FnOk X.prog X.w X.K X.mg X.base CX n f fd ps sp) (room : Room n X.A) (at_ : PySem.W.findIn X.K (.ref C) "__eq__" = some (some (.ref f))) (fn : PySem.W.isFn X.K (.ref f) = true) (b : Binds X.K fd ps []) (hx : Passes CX X E) : OpR X (compareOp .Eq) (rEqL C sp E) := by
  intro pins s σ H x y v u Q I rx ry h
  obtain ⟨a, c, dx, fs, xs, rfl, rfl, ha, hc, q⟩ := h
  cases rx
  cases ry
  obtain ⟨mA, J, _⟩ := ins_get I.hok ha
  obtain ⟨od, J, _⟩ := J.look
  obtain ⟨m, hF⟩ := I.fr
  obtain ⟨_, its, n1, r1, e1⟩ := I.hok c _ hc
  show wpAny _ _ (richCompare .Eq _ _) _ _ _
  refine PySem.W.cmp_K (op := .Eq) (tb := .type "list") room.units0 hF I.ok.mod.kin J ((PySem.W.Looks.ld (part := none) e1).andThen .now) (by simp [PySem.W.notFirst, sub_list]) at_ fn ?_
  refine wpAny_mono (run_at (vs := [.ref a, .ref c]) F room rfl b hx I (.cons rfl (.cons rfl .nil)) q) ?_ fun _ _ z => z
  rintro r s1 ⟨w, H1, I1, rv, k, ek, q1⟩
  subst ek
  cases rv
  exact ⟨.bl k, H1, I1, rfl, q1⟩
end
end Z
local macro_rules | `(tactic| walk_at "st") => `(tactic| repeat (first
  | ((with_reducible refine' Z.s_var ?h ?_); (case h => exact rfl))
  | with_reducible refine Z.s_c ?_
  | with_reducible refine Z.s_op ?_
  | with_reducible refine Z.s_un ?_
  | with_reducible refine Z.s_nil ?_
  | with_reducible refine Z.s_cons ?_
  | with_reducible refine Z.s_cb ?_
  | with_reducible refine Z.s_call ?_
  | with_reducible refine Z.s_tup ?_
  | with_reducible refine Z.s_lst ?_
  | with_reducible refine Z.s_test ?_
  | with_reducible refine Z.s_B ?_
  | with_reducible refine Z.s_and ?_
  | with_reducible refine Z.s_or ?_
  | with_reducible refine Z.s_not ?_
  | with_reducible refine Z.s_andV ?_
  | with_reducible refine Z.s_orV ?_
  | with_reducible refine Z.s_notV ?_
  | with_reducible refine Z.s_if ?_
  | with_reducible refine Z.s_chain ?_
  | with_reducible refine Z.s_seq ?_
  | with_reducible refine Z.s_next ?_
  | with_reducible refine Z.s_drop ?_
  | with_reducible refine Z.s_ret ?_
  | with_reducible refine Z.s_ifS ?_
  | with_reducible refine Z.s_asg ?_
  | with_reducible refine Z.s_name ?_
  | with_reducible refine Z.s_par ?_
  | with_reducible refine Z.s_item ?_
  | with_reducible refine Z.s_part ?_
  | with_reducible refine Z.s_noPart ?_
  | with_reducible refine Z.s_cut ?_
  | with_reducible refine Z.s_bm0 ?_
  | with_reducible refine Z.s_bm ?_
  | with_reducible refine Z.s_bl (P := _) ?_
  | with_reducible refine Z.s_two (P := _) ?_
  | with_reducible refine Z.s_int (P := _) ?_
  | with_reducible refine Z.a_addI ?_
  | with_reducible refine Z.a_subI ?_
  | with_reducible refine Z.a_ltI ?_
  | with_reducible refine Z.a_leI ?_
  | with_reducible refine Z.a_gtI ?_
  | with_reducible refine Z.a_geI ?_
  | with_reducible refine Z.a_eqI ?_
  | with_reducible refine Z.a_neI ?_
  | with_reducible refine Z.a_eqS ?_
  | with_reducible refine Z.a_neS ?_
  | with_reducible refine Z.a_eqB ?_
  | with_reducible refine Z.a_neB ?_
  | with_reducible refine Z.a_isN ?_
  | with_reducible refine Z.a_notN ?_
  | with_reducible refine Z.a_setL ?_
  | with_reducible refine Z.a_int ?_
  | with_reducible refine Z.a_intB ?_
  | with_reducible refine Z.a_abs ?_
  | with_reducible refine Z.a_max ?_
  | with_reducible refine Z.a_min ?_
  | with_reducible refine Z.s_lc ?_
  | with_reducible refine Z.s_for ?_
  | with_reducible refine Z.s_iList ?_
  | with_reducible refine Z.s_iTup ?_
  | with_reducible refine Z.s_iStr ?_
  | with_reducible refine Z.s_rng1 ?_
  | with_reducible refine Z.s_rng2 ?_
  | with_reducible refine Z.s_gtup ?_
  | with_reducible refine Z.s_gcons ?_
  | with_reducible refine Z.s_gnil ?_
  | with_reducible refine Z.s_yes ?_
  | with_reducible refine Z.s_ref (P := _) ?_
  | with_reducible refine Z.s_str (P := _) ?_
  | with_reducible refine Z.s_one (P := _) ?_
  | with_reducible refine Z.s_m1 ?_
  | with_reducible refine Z.s_m0 ?_
  | with_reducible refine Z.s_isStr ?_))
namespace Z
open PySem PySem.Spec PyProof.Rows L2 G
section
variable {P : Program} {w : World} {K : PySem.W.Frag} {mg : Str → Option Value} {base : Heap}
/-- a drawn word of these signs -/
def spWord : Sp := fun vs H Q _ => ∃ a g n, vs = [.ref a, .str g, .int n] ∧ Pot a H ∧ 0 < g.length ∧ g.length ≤ 100 ∧ 0 ≤ n ∧ n ≤ 100 ∧ ∀ H1 z, Mv a H H1 → (z.length : Int) ≤ n → (∀ c ∈ z.cps.toList, c ∈ g.cps.toList) → Q (.str z) H1
abbrev s_law_word : Stmt := topS 31
theorem sc_law_word : FnScope ["pot", "signs", "most", "turn"] ["pot", "signs", "most"] (defScope s_law_word) := ⟨rfl, rfl, rfl, by decide +kernel, rfl, by decide +kernel, by decide +kernel⟩
theorem ok_word {f fdip fch : Addr} {fd fddip fdch : FuncData} (T : Txt2 mg) (D : Def K mg "_law_word" s_law_word ["pot", "signs", "most"] f fd) (D_law_dip : Def K mg "_law_dip" s_law_dip ["pot", "total"] fdip fddip) (D_law_choose : Def K mg "_law_choose" s_law_choose ["pot", "items"] fch fdch) : FnOk P w K mg base CX0 3 f fd ["pot", "signs", "most"] spWord := by
  have G_law_dip : FnOk P w K mg base CX0 1 fdip fddip ["pot", "total"] spDip := ok_dip T.toTxt D_law_dip
  have G_law_choose : FnOk P w K mg base CX0 2 fch fdch ["pot", "items"] (spChoose K) := ok_choose T.toTxt D_law_choose D_law_dip
  refine D.F.ok sc_law_word (fun vs H Q E h => ?_) (fun cdv A outer s H vs Q E hr h => ?_)
  · obtain ⟨a, g, n, rfl, _⟩ := h
    rfl
  · obtain ⟨a, g, n, rfl, pot, g0, g1, n0, n1, k⟩ := h
    refine ⟨_, (pss_one (ps_ret (Z.k_join (K := K) pe_str (pe_lc (own := [("turn", 3)]) (by rfl) sc_law_word.nd (pi_range1 (by rfl) T.range (pa_cons (pe_call G_law_dip (hr.mono (by decide)) (by rfl) D_law_dip.g D_law_dip.F.kp D_law_dip.b .nil pass0 (pa_cons (pv 0) (pa_cons (pe_op (Z.k_add (K := K)) (pv 2) pe_int) pa_nil))) pa_nil)) (blkOk_by (own := [("turn", 3)]) (N := ["pot", "signs", "most", "turn"]) (sc := defScope s_law_word) (by decide +kernel))
   (fun _ _ _ _ _ => (pg_name (i := 3) sc_law_word.nd rfl (by first | exact Or.inl rfl | exact Or.inr rfl))) (fun _ _ _ _ _ => pts_nil) (fun _ _ _ _ _ => (pe_call G_law_choose (hr.mono (by decide)) (by rfl) D_law_choose.g D_law_choose.F.kp D_law_choose.b .nil pass0 (pa_cons (pv 0) (pa_cons (pv 1) pa_nil)))))))), ?_⟩
    walk_at "st"
    refine ⟨a, n + 1, rfl, pot, by omega, by omega, fun H3 r m5 r0 r1 => ?_⟩
    have mu : ∀ L o H6, H3 L = none → Mv a H H6 → Mv a H (upd H6 L o) := fun L o H6 e m => m.upd pot (m5.free pot e)
    have iu : ∀ (L : Addr) (o : HO) (i : Nat) (acc : List V) (H6 : Hp), H3 L = none → Mv a H H6 → (∃ cs : List Nat, acc = cs.map (fun c => V.str ⟨#[c]⟩) ∧ (∀ c ∈ cs, c ∈ g.cps.toList) ∧ cs.length = i) →
        (∃ cs : List Nat, acc = cs.map (fun c => V.str ⟨#[c]⟩) ∧ (∀ c ∈ cs, c ∈ g.cps.toList) ∧ cs.length = i) := fun _ _ _ _ _ _ _ h => h
    walk_at "st"
    refine ⟨by omega, by omega, comp walkR (Mv a H) (fun i acc H6 => ∃ cs : List Nat, acc = cs.map (fun c => V.str ⟨#[c]⟩) ∧ (∀ c ∈ cs, c ∈ g.cps.toList) ∧ cs.length = i) m5 mu iu ⟨[], rfl, by simp, rfl⟩ (fun _ _ _ _ _ => trivial) ?_ ?_⟩
    · rintro L i acc x H6 fresh hi _ len m at_ ⟨cs, rfl, hcs, many⟩
      have hL : H L = none := m5.free pot fresh
      refine turn1 rfl ?_
      walk_at "st"
      refine ⟨a, m.pot, .inr ⟨g, rfl, g0, by omega, fun H7 c mc7 hc => ?_⟩⟩
      refine put (acc := cs.map fun c => V.str ⟨#[c]⟩) fresh mu iu (mc7.at (Mv.ne pot (Mv.refl pot) hL) at_) (by omega) len (m.trans mc7) ⟨cs ++ [c], ?_, ?_, ?_⟩
      · rw [List.map_append]
        rfl
      · intro d hd
        rcases List.mem_append.mp hd with hd | hd
        · exact hcs d hd
        · rw [List.mem_singleton.mp hd]
          exact hc
      · rw [List.length_append, many]
        rfl
    · rintro L acc H6 fresh len m at_ ⟨cs, rfl, hcs, many⟩
      refine join_of (SqL.of at_) (by omega) fun word hw => ?_
      refine k _ _ m ?_ (by rw [hw]; exact hcs)
      have : word.length = cs.length := by
        rw [← hw, Array.length_toList]
        rfl
      omega
/-- a list of sources and sinks -/
def Rec (K : PySem.W.Frag) (H : Hp) (r : Addr) (ps qs : List (Str × Str)) : Prop := ∃ t1 t2, SqL K H r [.ref t1, .ref t2] ∧ Dz K H (.ref t1) (.tuple (ps.map prD)) ∧ Dz K H (.ref t2) (.tuple (qs.map prD))
theorem Rec.same {H H1 : Hp} {r : Addr} {ps qs : List (Str × Str)} (h : Rec K H r ps qs) (s : Same H H1) : Rec K H1 r ps qs :=
  let ⟨t1, t2, a, b, c⟩ := h
  ⟨t1, t2, s.seq a, Dz.same s _ _ b, Dz.same s _ _ c⟩
/-- [name + ':' + signs for name, signs in pairs] -/
theorem comp_tell {σ : L2.St} {vs : List Nat} {i j : Nat} {p : Addr} {xs : List V} {ps : List (Str × Str)} {H : Hp} {Q : VK} (hx : SqT K H p xs) (hd : DzAll K H xs (ps.map prD)) (good : GoodP ps) (few : ps.length ≤ 1000)
    (hw : ∀ x y, wipe (((wipe σ vs).set i (some x)).set j (some y)) vs = wipe σ vs) (hi : ∀ x y, (((wipe σ vs).set i (some x)).set j (some y))[i]? = some (some x)) (hj : ∀ x y, (((wipe σ vs).set i (some x)).set j (some y))[j]? = some (some y))
    (done : ∀ L H2, H L = none → Same H H2 → H2 L = some (.lst (oneOf (ps.map tellP))) → Q (.ref L) H2) :
    CompOk (Itt K p) (gTup K 2 (gCons (gName i) (gCons (gName j) gNil))) tYes (tOp (Z.rAdd K) (tOp (Z.rAdd K) (tVar i) (tC (.str (Str.ofString ":")))) (tVar j)) vs σ H Q := by
  have many : xs.length = ps.length := by
    rw [hd.len, List.length_map]
  refine comp (walkT (xs := xs)) (Same H) (fun n acc H2 => acc = oneOf ((ps.take n).map tellP)) (Same.refl H) (fun L o H2 e m => same_upd m e) (fun _ _ _ _ _ _ _ h => h) rfl (fun n acc H2 m _ => same_sqt m hx) ?_ ?_
  · rintro L n acc x H2 fresh hn hxi len m at_ rfl
    have ln : n < ps.length := by omega
    obtain ⟨d, hdi, dz⟩ := hd.get hxi
    rw [List.getElem?_map, List.getElem?_eq_getElem ln] at hdi
    have ed : d = prD ps[n] := (Option.some.inj hdi).symm
    rw [ed] at dz
    have gp := good ps[n] (List.getElem_mem ln)
    obtain ⟨l1, l2⟩ := small_pair gp
    obtain ⟨a, zs, rfl, ha, hz⟩ := dz.tuple
    cases hz with
    | cons q1 q =>
      cases q with
      | cons q2 q =>
        cases q
        cases q1
        cases q2
        have tl := tell_len gp
        have e0 : Str.empty ++ ps[n].1 = ps[n].1 := PySem.Str.ext' (by rw [PySem.Str.cps_append]; exact Array.empty_append)
        have c1 : (Str.ofString ":").length = 1 := by decide +kernel
        refine ⟨_, [.str ps[n].1, .str ps[n].2], rfl, same_sqt m ha, rfl, ?_⟩
        refine s_gcons (s_name (s_gcons (s_name (s_gnil ?_))))
        refine ⟨hw _ _, s_yes (iteT ?_)⟩
        refine s_op (s_op (s_var (hi _ _) (s_c ⟨?_, s_var (hj _ _) ⟨?_, ?_⟩⟩)))
        · rw [c1, sizeLine_eq]
          omega
        · rw [strLen_append, c1, sizeLine_eq]
          omega
        have et : ps[n].1 ++ Str.ofString ":" ++ ps[n].2 = tellP ps[n] := by
          unfold tellP
          rw [e0]
        rw [et]
        refine put fresh (fun L o H2 e m => same_upd m e) (fun _ _ _ _ _ _ _ h => h) at_ (by omega) len m ?_
        rw [List.take_add_one, List.getElem?_eq_getElem ln, List.map_append]
        unfold oneOf
        rw [List.map_append]
        rfl
  · rintro L acc H2 fresh len m at_ rfl
    rw [many, List.take_length] at at_
    exact done L H2 fresh m at_
/-- a list put behind another -/
theorem cat_lst {H : Hp} {Q : VK} {a b : Addr} {xs ys : List V} (ha : H a = some (.lst xs)) (hb : H b = some (.lst ys)) (few : xs.length + ys.length ≤ 1000) (q : ∀ p, H p = none → Q (.ref p) (upd H p (.lst (xs ++ ys)))) : Z.rAdd K (.ref a) (.ref b) H Q :=
  .inl ⟨a, b, xs, ys, rfl, rfl, ha, hb, by rw [sizeLine_eq]; omega, q⟩
/-- the text of a record -/
def spText (K : PySem.W.Frag) : Sp := fun vs H Q _ => ∃ r ps qs, vs = [.ref r] ∧ Rec K H r ps qs ∧ GoodP ps ∧ GoodP qs ∧ ps.length ≤ 3 ∧ qs.length ≤ 3 ∧ ∀ H1, Same H H1 → Q (.str (Txt.join (Str.ofString " ") (toldW ps qs))) H1
abbrev s_law_text : Stmt := topS 32
theorem sc_law_text : FnScope ["record", "found", "name", "signs"] ["record"] (defScope s_law_text) := ⟨rfl, rfl, rfl, by decide +kernel, rfl, by decide +kernel, by decide +kernel⟩
theorem ok_text {f : Addr} {fd : FuncData} (D : Def K mg "_law_text" s_law_text ["record"] f fd) : FnOk P w K mg base CX0 1 f fd ["record"] (spText K) := by
  refine D.F.ok sc_law_text (fun vs H Q E h => ?_) (fun cdv A outer s H vs Q E hr h => ?_)
  · obtain ⟨r, ps, qs, rfl, _⟩ := h
    rfl
  · obtain ⟨r, ps, qs, rfl, ⟨t1, t2, hL, dz, dy⟩, gp, gq, lp, lq, k⟩ := h
    obtain ⟨_, xs1, e1, a1, d1⟩ := dz.tuple
    obtain ⟨_, xs2, e2, a2, d2⟩ := dy.tuple
    cases e1
    cases e2
    refine ⟨_, (pss_cons (ps_set (i := 1) sc_law_text.nd rfl (by first | exact Or.inl rfl | exact Or.inr rfl) (pe_op (Z.k_add (K := K)) (pe_lc (own := [("name", 2), ("signs", 3)]) (by rfl) sc_law_text.nd (pi_tup (pe_ix (Z.k_item (K := K)) (pv 0) pe_int (fun _ _ => rfl))) (blkOk_by (own := [("name", 2), ("signs", 3)]) (N := ["record", "found", "name", "signs"]) (sc := defScope s_law_text) (by decide +kernel))
   (fun _ _ _ _ _ => (Z.k_tup (K := K) (n := 2) rfl (pgs_cons (pg_name (i := 2) sc_law_text.nd rfl (by first | exact Or.inl rfl | exact Or.inr rfl)) (pgs_cons (pg_name (i := 3) sc_law_text.nd rfl (by first | exact Or.inl rfl | exact Or.inr rfl)) pgs_nil)))) (fun _ _ _ _ _ => pts_nil) (fun _ _ _ _ _ => (pe_op (Z.k_add (K := K)) (pe_op (Z.k_add (K := K)) (pv 2) pe_str) (pv 3)))) (pe_lst (pa_cons pe_str pa_nil))))
 (pss_one (ps_ret (Z.k_join (K := K) pe_str (pe_op (Z.k_add (K := K)) (pv 1) (pe_lc (own := [("name", 2), ("signs", 3)]) (by rfl) sc_law_text.nd (pi_tup (pe_ix (Z.k_item (K := K)) (pv 0) pe_int (fun _ _ => rfl))) (blkOk_by (own := [("name", 2), ("signs", 3)]) (N := ["record", "found", "name", "signs"]) (sc := defScope s_law_text) (by decide +kernel))
   (fun _ _ _ _ _ => (Z.k_tup (K := K) (n := 2) rfl (pgs_cons (pg_name (i := 2) sc_law_text.nd rfl (by first | exact Or.inl rfl | exact Or.inr rfl)) (pgs_cons (pg_name (i := 3) sc_law_text.nd rfl (by first | exact Or.inl rfl | exact Or.inr rfl)) pgs_nil)))) (fun _ _ _ _ _ => pts_nil) (fun _ _ _ _ _ => (pe_op (Z.k_add (K := K)) (pe_op (Z.k_add (K := K)) (pv 2) pe_str) (pv 3))))))))), ?_⟩
    walk_at "st"
    refine item hL (by rfl) ?_
    refine ⟨t1, rfl, ⟨_, a1⟩, comp_tell a1 d1 gp (by omega) (fun _ _ => rfl) (fun _ _ => rfl) (fun _ _ => rfl) ?_⟩
    intro L1 H1 f1 s1 at1
    walk_at "st"
    refine ⟨by show 1 ≤ sizeLine; decide, fun p2 np2 => ?_⟩
    generalize g2 : upd H1 p2 _ = H2
    have s2 : Same H1 H2 := by rw [← g2]; exact same_new (Same.refl H1) np2
    have at2 : H2 p2 = some (.lst (oneOf [Str.ofString ">"])) := by rw [← g2]; exact upd_same
    refine cat_lst (s2 _ _ at1) at2 (by rw [List.length_map, List.length_map]; show ps.length + 1 ≤ 1000; omega) fun p3 np3 => ?_
    generalize g3 : upd H2 p3 _ = H3
    have s3 : Same H2 H3 := by rw [← g3]; exact same_new (Same.refl H2) np3
    have at3 : H3 p3 = some (.lst (oneOf (ps.map tellP) ++ oneOf [Str.ofString ">"])) := by rw [← g3]; exact upd_same
    have s13 := s1.trans (s2.trans s3)
    walk_at "st"
    refine item (s13.seq hL) (by rfl) ?_
    refine ⟨t2, rfl, ⟨_, same_sqt s13 a2⟩, comp_tell (same_sqt s13 a2) (DzAll.same s13 _ _ d2) gq (by omega) (fun _ _ => rfl) (fun _ _ => rfl) (fun _ _ => rfl) ?_⟩
    intro L4 H4 f4 s4 at4
    refine cat_lst (s4 _ _ at3) at4 (by simp only [List.length_append, List.length_map, List.length_singleton]; omega) fun p5 np5 => ?_
    generalize g5 : upd H4 p5 _ = H5
    have s5 : Same H4 H5 := by rw [← g5]; exact same_new (Same.refl H4) np5
    have at5 : H5 p5 = some (.lst (oneOf (toldW ps qs))) := by
      rw [← g5, upd_same]
      unfold toldW oneOf
      rw [List.map_append, List.map_append]
    refine ⟨toldW ps qs, .inl (SqL.of at5), ?_, k H5 (s13.trans (s4.trans s5))⟩
    have b1 := sum_few (told_few gp gq)
    have b2 : (toldW ps qs).length ≤ 7 := by
      unfold toldW
      simp only [List.length_append, List.length_map, List.length_singleton]
      omega
    have b3 : (Str.ofString " ").length = 1 := by decide +kernel
    rw [b3]
    omega
end
end Z
/-! Small texts. -/
namespace Z
open PySem PySem.Spec PyProof.Rows L2 G
/-- at most n signs, none beyond what is shown in ten -/
structure Sm (n : Nat) (z : Str) : Prop where
  len : z.length ≤ n
  sg : ∀ c ∈ z.cps.toList, c < 16 ^ 8
namespace Sm
variable {n m : Nat} {x y : Str}
theorem mono (h : Sm n x) (le : n ≤ m) : Sm m x := ⟨Nat.le_trans h.len le, h.sg⟩
theorem fit (h : Sm n x) : Fit (10 * n + 2) 0 (.str x) := by
  refine ⟨?_, ?_, ?_⟩
  · show (x.cps.toList.all fun c => decide (c < 16 ^ 8)) = true
    rw [List.all_eq_true]
    exact fun c hc => decide_eq_true (h.sg c hc)
  · simp only [wt]
    have := h.len
    omega
  · simp only [PyData.depth]
    exact Nat.le_refl 0
theorem app (h : Sm n x) (g : Sm m y) : Sm (n + m) (x ++ y) := by
  refine ⟨?_, ?_⟩
  · rw [strLen_append]
    have := h.len
    have := g.len
    omega
  · intro c hc
    have e : (x ++ y).cps = x.cps ++ y.cps := PySem.Str.cps_append x y
    rw [e, Array.toList_append] at hc
    rcases List.mem_append.mp hc with hc | hc
    · exact h.sg c hc
    · exact g.sg c hc
theorem cut (h : Sm n x) (lo hi : Option Int) : Sm n (cutS x lo hi) := by
  have e : (cutS x lo hi).cps.toList = (x.cps.toList.drop (HT.sIx x.length 0 lo)).take (HT.sIx x.length x.length hi - HT.sIx x.length 0 lo) := by
    unfold cutS
    rfl
  refine ⟨?_, ?_⟩
  · show (cutS x lo hi).cps.size ≤ n
    rw [← Array.length_toList, e, List.length_take, List.length_drop, Array.length_toList]
    have l : x.length = x.cps.size := rfl
    have := h.len
    omega
  · intro c hc
    rw [e] at hc
    exact h.sg c (List.mem_of_mem_drop (List.mem_of_mem_take hc))
theorem rev (h : Sm n x) (le : y.length ≤ x.length) (mem : ∀ c ∈ y.cps.toList, c ∈ x.cps.toList) : Sm n y := ⟨Nat.le_trans le h.len, fun c hc => h.sg c (mem c hc)⟩
theorem of_word (h : wordB n x = true) : Sm n x := by
  obtain ⟨_, l, m⟩ := wordB_len h
  refine ⟨l, fun c hc => ?_⟩
  have := m c hc
  unfold letB at this
  rw [Bool.and_eq_true, decide_eq_true_eq, decide_eq_true_eq] at this
  exact Nat.lt_of_le_of_lt this.2 (by decide)
theorem fold_size (a : Array Nat) : ∀ (k : Nat) (acc : Array Nat), ((List.replicate k a).foldl (· ++ ·) acc).size = acc.size + k * a.size ∧ ∀ c ∈ ((List.replicate k a).foldl (· ++ ·) acc).toList, c ∈ acc.toList ∨ c ∈ a.toList
  | 0, acc => by
    refine ⟨by simp, fun c hc => .inl (by simpa using hc)⟩
  | k + 1, acc => by
    obtain ⟨h1, h2⟩ := fold_size a k (acc ++ a)
    rw [List.replicate_succ, List.foldl_cons]
    refine ⟨?_, fun c hc => ?_⟩
    · rw [h1, Array.size_append, Nat.add_mul]
      omega
    · rcases h2 c hc with h | h
      · rw [Array.toList_append] at h
        exact List.mem_append.mp h
      · exact .inr h
theorem mul (h : Sm n x) {k : Nat} (k1 : 1 ≤ k) : Sm (k * n) (Txt.mul x k) := by
  have l := h.len
  unfold Txt.mul
  rw [if_neg (by omega)]
  split
  · exact h.mono (Nat.le_trans (by omega) (Nat.mul_le_mul_right n k1))
  · obtain ⟨h1, h2⟩ := fold_size x.cps k #[]
    refine ⟨?_, fun c hc => ?_⟩
    · show ((List.replicate (k : Int).toNat x.cps).foldl (· ++ ·) #[]).size ≤ _
      rw [Int.toNat_natCast, h1]
      show 0 + k * x.length ≤ _
      rw [Nat.zero_add]
      exact Nat.mul_le_mul_left k l
    · rw [Int.toNat_natCast] at hc
      rcases h2 c hc with z | z
      · exact absurd z (by simp)
      · exact h.sg c z
theorem mulOk9 (h : Sm n x) (few : n ≤ 1000000) : MulOk x 9 := by
  have l := h.len
  refine ⟨by decide, fun _ _ => ?_, fun _ _ => ?_⟩
  · omega
  · show decide (x.length * 9 > sizeLine) = false
    refine decide_eq_false ?_
    rw [sizeLine_eq]
    omega
theorem upper : ∀ (cs : List Nat), (∀ c ∈ cs, letB c = true) → Sm cs.length (Txt.upper ⟨cs.toArray⟩)
  | [], _ => by
    have e : Txt.upper ⟨([] : List Nat).toArray⟩ = ⟨#[]⟩ := by decide +kernel
    rw [e]
    exact ⟨Nat.le_refl 0, fun c hc => by simp at hc⟩
  | c :: cs, h => by
    have e : (⟨(c :: cs).toArray⟩ : Str) = (⟨#[c]⟩ : Str) ++ ⟨cs.toArray⟩ := by
      refine PySem.Str.ext' ?_
      rw [PySem.Str.cps_append]
      simp
    have hc := h c List.mem_cons_self
    unfold letB at hc
    rw [Bool.and_eq_true, decide_eq_true_eq, decide_eq_true_eq] at hc
    rw [e, PySem.W.KOpn.upper_app, PySem.W.KOpn.upper_one (by omega)]
    have one : Sm 1 (⟨#[if 97 ≤ c ∧ c ≤ 122 then c - 32 else c]⟩ : Str) := by
      refine ⟨Nat.le_refl 1, fun d hd => ?_⟩
      have e2 : d = if 97 ≤ c ∧ c ≤ 122 then c - 32 else c := by simpa using hd
      rw [e2, if_pos hc]
      omega
    have := one.app (upper cs fun d hd => h d (List.mem_cons_of_mem _ hd))
    refine this.mono ?_
    rw [List.length_cons]
    omega
theorem upper_word (h : wordB n x = true) : Sm n (Txt.upper x) := by
  obtain ⟨_, l, m⟩ := wordB_len h
  have := upper x.cps.toList m
  have e : (⟨x.cps.toList.toArray⟩ : Str) = x := by
    refine PySem.Str.ext' ?_
    simp
  rw [e] at this
  refine this.mono ?_
  rw [Array.length_toList]
  exact l
end Sm
/-! ### what fits, put together -/
theorem fitAll_of : ∀ {ds : List PyData}, (∀ d ∈ ds, fitD d = true) → fitAll ds = true
  | [], _ => by simp only [fitAll]
  | d :: ds, h => by
    simp only [fitAll, h d List.mem_cons_self, fitAll_of fun e he => h e (List.mem_cons_of_mem _ he), Bool.and_self]
theorem wtAll_of {W : Nat} : ∀ {ds : List PyData}, (∀ d ∈ ds, wt d ≤ W) → wtAll ds ≤ ds.length * (W + 2)
  | [], _ => by
    simp only [wtAll]
    exact Nat.zero_le _
  | d :: ds, h => by
    simp only [wtAll, List.length_cons]
    have a := h d List.mem_cons_self
    have b := wtAll_of fun e he => h e (List.mem_cons_of_mem _ he)
    rw [Nat.add_mul]
    omega
theorem deepAll_of {n : Nat} : ∀ {ds : List PyData}, (∀ d ∈ ds, d.depth ≤ n) → PyData.depthAll ds ≤ n
  | [], _ => by
    simp only [PyData.depthAll]
    exact Nat.zero_le _
  | d :: ds, h => by
    simp only [PyData.depthAll]
    exact Nat.max_le.mpr ⟨h d List.mem_cons_self, deepAll_of fun e he => h e (List.mem_cons_of_mem _ he)⟩
theorem Fit.tup {W n k V : Nat} {ds : List PyData} (h : ∀ d ∈ ds, Fit W n d) (len : ds.length ≤ k) (le : 3 + k * (W + 2) ≤ V) : Fit V (n + 1) (.tuple ds) := by
  refine ⟨?_, ?_, ?_⟩
  · simp only [fitD]
    exact fitAll_of fun d hd => (h d hd).fit
  · simp only [Z.wt]
    have a := wtAll_of fun d hd => (h d hd).wt
    have b := Nat.mul_le_mul_right (W + 2) len
    omega
  · simp only [PyData.depth]
    exact Nat.add_le_add_right (deepAll_of fun d hd => (h d hd).deep) 1
theorem Fit.lst {W n k V : Nat} {ds : List PyData} (h : ∀ d ∈ ds, Fit W n d) (len : ds.length ≤ k) (le : 3 + k * (W + 2) ≤ V) : Fit V (n + 1) (.list ds) := by
  refine ⟨?_, ?_, ?_⟩
  · simp only [fitD]
    exact fitAll_of fun d hd => (h d hd).fit
  · simp only [Z.wt]
    have a := wtAll_of fun d hd => (h d hd).wt
    have b := Nat.mul_le_mul_right (W + 2) len
    omega
  · simp only [PyData.depth]
    exact Nat.add_le_add_right (deepAll_of fun d hd => (h d hd).deep) 1
theorem fitKv_of : ∀ {es : List (PyData × PyData)}, (∀ e ∈ es, fitD e.1 = true ∧ fitD e.2 = true) → fitKv es = true
  | [], _ => by simp only [fitKv]
  | (k, v) :: es, h => by
    obtain ⟨a, b⟩ := h (k, v) List.mem_cons_self
    simp only [fitKv, a, b, fitKv_of fun e he => h e (List.mem_cons_of_mem _ he), Bool.and_self]
theorem wtKv_of {W : Nat} : ∀ {es : List (PyData × PyData)}, (∀ e ∈ es, wt e.1 + wt e.2 ≤ W) → wtKv es ≤ es.length * (W + 4)
  | [], _ => by
    simp only [wtKv]
    exact Nat.zero_le _
  | (k, v) :: es, h => by
    simp only [wtKv, List.length_cons]
    have a : wt k + wt v ≤ W := h (k, v) List.mem_cons_self
    have b := wtKv_of fun e he => h e (List.mem_cons_of_mem _ he)
    rw [Nat.add_mul]
    omega
theorem deepKv_of {n : Nat} : ∀ {es : List (PyData × PyData)}, (∀ e ∈ es, e.1.depth ≤ n ∧ e.2.depth ≤ n) → PyData.depthKv es ≤ n
  | [], _ => by
    simp only [PyData.depthKv]
    exact Nat.zero_le _
  | (k, v) :: es, h => by
    obtain ⟨a, b⟩ := h (k, v) List.mem_cons_self
    simp only [PyData.depthKv]
    exact Nat.max_le.mpr ⟨Nat.max_le.mpr ⟨a, b⟩, deepKv_of fun e he => h e (List.mem_cons_of_mem _ he)⟩
theorem Fit.dic {W n k V : Nat} {es : List (PyData × PyData)} (h : ∀ e ∈ es, Fit W n e.1 ∧ Fit W n e.2) (len : es.length ≤ k) (le : 2 + k * (W + W + 4) ≤ V) : Fit V (n + 1) (.dict es) := by
  refine ⟨?_, ?_, ?_⟩
  · simp only [fitD]
    exact fitKv_of fun e he => ⟨(h e he).1.fit, (h e he).2.fit⟩
  · simp only [Z.wt]
    have a := wtKv_of (W := W + W) fun e he => Nat.add_le_add (h e he).1.wt (h e he).2.wt
    have b := Nat.mul_le_mul_right (W + W + 4) len
    omega
  · simp only [PyData.depth]
    exact Nat.add_le_add_right (deepKv_of fun e he => ⟨(h e he).1.deep, (h e he).2.deep⟩) 1
theorem Fit.none {W n : Nat} (h : 4 ≤ W) : Fit W n .none := ⟨by simp only [fitD], by simp only [Z.wt]; exact h, by simp only [PyData.depth]; exact Nat.zero_le _⟩
theorem Fit.bool {W n : Nat} {b : Bool} (h : 5 ≤ W) : Fit W n (.bool b) := ⟨by simp only [fitD], by simp only [Z.wt]; exact h, by simp only [PyData.depth]; exact Nat.zero_le _⟩
theorem Fit.int {W n : Nat} {i : Int} (h : i.natAbs.log2 < 1920) (le : (toString i : Str).length ≤ W) : Fit W n (.int i) :=
  ⟨by simp only [fitD]; exact decide_eq_true h, by simp only [Z.wt]; exact le, by simp only [PyData.depth]; exact Nat.zero_le _⟩
end Z
/-! repr where all is quiet; lists of truths; parts that can be shown. -/
namespace Z
open PySem PySem.Spec PyProof.Rows L2 G
section
variable {P : Program} {w : World} {K : PySem.W.Frag} {mg : Str → Option Value} {base : Heap}
theorem k_repr {X : Cx} {k : Nat} (quiet : Quiet X.A) (room : Room k X.A) (h : X.K = K := by rfl) : CallR X (.builtin "repr") (rRepr K) := by
  subst h
  exact call_repr quiet room
/-- as of_body, for a body in which nothing is raised -/
theorem of_calm {k : Nat} {f : Addr} {fd : FuncData} {ps N : List Str} {sp : Sp} {x qual : Str} {st : Stmt} (F : Fun K x qual st f fd) (S : FnScope N ps (defScope st)) (many : ∀ vs H Q E, sp vs H Q E → vs.length = ps.length)
    (body : ∀ (cdv : Value) (A : Around), Quiet A → ∀ (outer : List Env) (s : Shared) (H : Hp) (vs : List V) (Q : VK) (E : XK), Room k (A.deeper (envOfC qual (defScope st) s.heap.objs.size f cdv)) → sp vs H Q E →
      ∃ t, PSs (cxOf CX0 P w K mg base N qual (defScope st) f cdv A outer s H E).nox (defBody st) t ∧ t { nx := fun _ H1 => Q .non H1, rt := Q } (start N vs) H) : FnG P w K mg base CX0 (k + 1) f fd ps sp :=
  of_body F S many fun cdv A quiet outer s H vs Q E room want => let ⟨t, d, q⟩ := body cdv A quiet outer s H vs Q E room want; ⟨t, d.nox, q⟩
theorem Mv.of_same {a : Addr} {H H1 : Hp} (h : Pot a H) (s : Same H H1) : Mv a H H1 := by
  refine ⟨same_hidden s, ?_⟩
  obtain ⟨p, q, r, e, z⟩ := h
  exact ⟨p, q, r, s _ _ e, z⟩
theorem name_w {z : Str} (h : nameB z = true) : wordB 8 z = true := by
  unfold nameB at h
  rw [Bool.and_eq_true] at h
  exact h.1
theorem signs_w4 {z : Str} (h : signsB z = true) : wordB 4 z = true := by
  unfold signsB at h
  rw [Bool.and_eq_true] at h
  exact h.1
theorem signs_w {z : Str} (h : signsB z = true) : wordB 8 z = true := by
  have h1 := signs_w4 h
  unfold wordB at h1 ⊢
  simp only [Bool.and_eq_true, decide_eq_true_eq] at h1 ⊢
  exact ⟨⟨h1.1.1, Nat.le_trans h1.1.2 (by decide)⟩, h1.2⟩
theorem fit_parts {ps : List (Str × Str)} (h3 : ps.length ≤ 3) (g : GoodP ps) : Fit 1000 2 (.tuple (ps.map prD)) := by
  refine Fit.tup (W := 200) (k := 3) (fun d hd => ?_) (by rw [List.length_map]; exact h3) (by decide)
  obtain ⟨p, hp, rfl⟩ := List.mem_map.mp hd
  obtain ⟨n, s⟩ := g p hp
  refine Fit.tup (W := 82) (k := 2) (fun e he => ?_) (Nat.le_refl _) (by decide)
  simp only [List.mem_cons, List.not_mem_nil, or_false] at he
  rcases he with rfl | rfl
  · exact (Sm.of_word (name_w n)).fit
  · exact (Sm.of_word (signs_w s)).fit
theorem fit_names {zs : List Str} (h6 : zs.length ≤ 6) (g : ∀ z ∈ zs, nameB z = true) : Fit 1000 1 (.tuple (zs.map .str)) := by
  refine Fit.tup (W := 82) (k := 6) (fun d hd => ?_) (by rw [List.length_map]; exact h6) (by decide)
  obtain ⟨z, hz, rfl⟩ := List.mem_map.mp hd
  exact (Sm.of_word (name_w (g z hz))).fit
/-! ### lists of truths -/
theorem dp_bools {H : Hp} : ∀ bs : List Bool, DpAll K H (bs.map V.bl) (bs.map PyData.bool)
  | [] => .nil
  | b :: bs => .cons (.bl b) (dp_bools bs)
theorem eqv_bools : ∀ bs cs : List Bool, PyData.eqvAll (bs.map .bool) (cs.map .bool) = decide (bs = cs)
  | [], [] => by simp only [List.map_nil, PyData.eqvAll]; rfl
  | b :: bs, [] => by simp only [List.map_nil, List.map_cons, PyData.eqvAll]; rfl
  | [], c :: cs => by simp only [List.map_nil, List.map_cons, PyData.eqvAll]; rfl
  | b :: bs, c :: cs => by
    simp only [List.map_cons, PyData.eqvAll, eqv_bools bs cs, PyData.eqv]
    cases b <;> cases c <;> simp
theorem shaped_bools (bs : List Bool) : SeqAt.shaped (.list (bs.map .bool)) = true := by
  have lay : ∀ bs : List Bool, PyData.canLayAll0 (bs.map .bool) = true ∧ PyData.depthAll (bs.map .bool) ≤ 0 := by
    intro bs
    induction bs with
    | nil =>
      refine ⟨by simp only [List.map_nil, PyData.canLayAll0], ?_⟩
      simp only [List.map_nil, PyData.depthAll]
      exact Nat.zero_le _
    | cons b bs ih =>
      obtain ⟨i1, i2⟩ := ih
      constructor
      · simp only [List.map_cons, PyData.canLayAll0, PyData.canLay0, Bool.and_eq_true]
        exact ⟨trivial, i1⟩
      · simp only [List.map_cons, PyData.depthAll, PyData.depth]
        exact Nat.max_le.mpr ⟨Nat.le_refl _, i2⟩
  obtain ⟨a, b⟩ := lay bs
  unfold SeqAt.shaped
  rw [Bool.and_eq_true]
  refine ⟨by simp only [PyData.canLay0]; exact a, decide_eq_true ?_⟩
  simp only [PyData.depth]
  omega
theorem eq_bools {H : Hp} {Q : VK} {p r : Addr} {bs cs : List Bool} (h : H p = some (.lst (bs.map V.bl))) (g : H r = some (.lst (cs.map V.bl))) (q : Q (.bl (decide (bs = cs))) H) : Z.rEq K (.ref p) (.ref r) H Q := by
  refine .inr ⟨_, _, .lst (SqL.of h) (dp_bools bs), .lst (SqL.of g) (dp_bools cs), shaped_bools bs, shaped_bools cs, ?_⟩
  rw [show PyData.eqv (.list (bs.map .bool)) (.list (cs.map .bool)) = PyData.eqvAll (bs.map .bool) (cs.map .bool) from by simp only [PyData.eqv], eqv_bools]
  exact q
theorem rep_one {H : Hp} {Q : VK} {l : Addr} {b : Bool} {n : Nat} (h : H l = some (.lst [V.bl b])) (few : n ≤ 1000) (q : ∀ p, H p = none → Q (.ref p) (upd H p (.lst ((List.replicate n b).map V.bl)))) : Z.rMul (.ref l) (.int (n : Nat)) H Q := by
  refine ⟨l, _, [V.bl b], rfl, rfl, h, by omega, by omega, ?_, fun p np => ?_⟩
  · rw [Int.toNat_natCast, sizeLine_eq]
    simp only [List.length_singleton]
    omega
  · have e : (List.replicate (n : Int).toNat [V.bl b]).flatten = (List.replicate n b).map V.bl := by
      rw [Int.toNat_natCast, List.flatten_replicate_singleton, List.map_replicate]
    rw [e]
    exact q p np
theorem s_dnew {σ : L2.St} {H : Hp} {Q : VK} (q : ∀ p, H p = none → Q (.ref p) (upd H p (.dK []))) : tDNewK σ H Q := q
theorem s_disp {σ : L2.St} {H : Hp} {Q : VK} {trs : List (TE × TE)} (q : ∀ p, H p = none → tPairs trs σ (upd H p (.dK [])) fun ps H2 => H2 p = some (.dK []) ∧ ∃ kvs : List (Key × V), ps = kvs.map (fun kv => (kV kv.1, kv.2)) ∧ kvs.length ≤ 15 ∧ Q (.ref p) (upd H2 p (.dK (mergeK [] kvs)))) : tDisp trs σ H Q := q
/-- make_ok, whatever is wished behind -/
theorem make_ok2 {C CF x dx : Addr} {H : Hp} {R : Hp → Prop} {E : XK} {v u : V} {ps qs : List (Str × Str)} (nx : H x = none) (ndx : H dx = none) (ne : dx ≠ x) (dz : Dz K H v (.tuple (ps.map prD))) (dy : Dz K H u (.tuple (qs.map prD))) (sg : Strm ps qs)
    (k : ∀ H1, Same H H1 → StAt K C H1 x ps qs → R H1) : spStreams K C CF [.ref x, v, u] (upd (upd H dx (.own x)) x (.ins C dx [])) (fun v H2 => v = .non ∧ R H2) E :=
  make_ok (Q := fun _ H2 => R H2) nx ndx ne dz dy (wt_parts sg.good sg.few) (wt_parts sg.good2 sg.few2) sg.lets k
/-! ### o.f of a property -/
theorem s_prop {C : Addr} {sp : Sp} {E : XK} {ta : TE} {σ : L2.St} {H : Hp} {Q : VK} (q : ta σ H fun x H1 => ∃ a dx fs, x = .ref a ∧ H1 a = some (.ins C dx fs) ∧ sp [.ref a] H1 Q E) : tProp C sp [] E ta σ H Q := q
/-- [name for name, signs in pairs] -/
theorem comp_nm {σ : L2.St} {vs : List Nat} {i j : Nat} {p : Addr} {xs : List V} {ps : List (Str × Str)} {H : Hp} {Q : VK} (hx : SqT K H p xs) (hd : DzAll K H xs (ps.map prD)) (few : ps.length ≤ 1000)
    (hw : ∀ x y, wipe (((wipe σ vs).set i (some x)).set j (some y)) vs = wipe σ vs) (hi : ∀ x y, (((wipe σ vs).set i (some x)).set j (some y))[i]? = some (some x))
    (done : ∀ L H2, H L = none → Same H H2 → H2 L = some (.lst (oneOf (ps.map (·.1)))) → Q (.ref L) H2) :
    CompOk (Itt K p) (gTup K 2 (gCons (gName i) (gCons (gName j) gNil))) tYes (tVar i) vs σ H Q := by
  have many : xs.length = ps.length := by
    rw [hd.len, List.length_map]
  refine comp (walkT (xs := xs)) (Same H) (fun n acc H2 => acc = oneOf ((ps.take n).map (·.1))) (Same.refl H) (fun L o H2 e m => same_upd m e) (fun _ _ _ _ _ _ _ h => h) rfl (fun n acc H2 m _ => same_sqt m hx) ?_ ?_
  · rintro L n acc x H2 fresh hn hxi len m at_ rfl
    have ln : n < ps.length := by omega
    obtain ⟨d, hdi, dz⟩ := hd.get hxi
    rw [List.getElem?_map, List.getElem?_eq_getElem ln] at hdi
    have ed : d = prD ps[n] := (Option.some.inj hdi).symm
    rw [ed] at dz
    obtain ⟨a, zs, rfl, ha, hz⟩ := dz.tuple
    cases hz with
    | cons q1 q =>
      cases q with
      | cons q2 q =>
        cases q
        cases q1
        cases q2
        refine ⟨_, [.str ps[n].1, .str ps[n].2], rfl, same_sqt m ha, rfl, ?_⟩
        refine s_gcons (s_name (s_gcons (s_name (s_gnil ?_))))
        refine ⟨hw _ _, s_yes (iteT ?_)⟩
        refine s_var (hi _ _) ?_
        refine put fresh (fun L o H2 e m => same_upd m e) (fun _ _ _ _ _ _ _ h => h) at_ (by omega) len m ?_
        rw [List.take_add_one, List.getElem?_eq_getElem ln, List.map_append]
        unfold oneOf
        rw [List.map_append]
        rfl
  · rintro L acc H2 fresh len m at_ rfl
    rw [many, List.take_length] at at_
    exact done L H2 fresh m at_
end
end Z
local macro_rules | `(tactic| walk_at "st") => `(tactic| repeat (first
  | ((with_reducible refine' Z.s_var ?h ?_); (case h => exact rfl))
  | with_reducible refine Z.s_c ?_
  | with_reducible refine Z.s_op ?_
  | with_reducible refine Z.s_un ?_
  | with_reducible refine Z.s_nil ?_
  | with_reducible refine Z.s_cons ?_
  | with_reducible refine Z.s_cb ?_
  | with_reducible refine Z.s_call ?_
  | with_reducible refine Z.s_tup ?_
  | with_reducible refine Z.s_lst ?_
  | with_reducible refine Z.s_test ?_
  | with_reducible refine Z.s_B ?_
  | with_reducible refine Z.s_and ?_
  | with_reducible refine Z.s_or ?_
  | with_reducible refine Z.s_not ?_
  | with_reducible refine Z.s_andV ?_
  | with_reducible refine Z.s_orV ?_
  | with_reducible refine Z.s_notV ?_
  | with_reducible refine Z.s_if ?_
  | with_reducible refine Z.s_chain ?_
  | with_reducible refine Z.s_seq ?_
  | with_reducible refine Z.s_next ?_
  | with_reducible refine Z.s_drop ?_
  | with_reducible refine Z.s_ret ?_
  | with_reducible refine Z.s_ifS ?_
  | with_reducible refine Z.s_asg ?_
  | with_reducible refine Z.s_name ?_
  | with_reducible refine Z.s_par ?_
  | with_reducible refine Z.s_item ?_
  | with_reducible refine Z.s_part ?_
  | with_reducible refine Z.s_noPart ?_
  | with_reducible refine Z.s_cut ?_
  | with_reducible refine Z.s_bm0 ?_
  | with_reducible refine Z.s_bm ?_
  | with_reducible refine Z.s_bl (P := _) ?_
  | with_reducible refine Z.s_two (P := _) ?_
  | with_reducible refine Z.s_int (P := _) ?_
  | with_reducible refine Z.a_addI ?_
  | with_reducible refine Z.a_subI ?_
  | with_reducible refine Z.a_ltI ?_
  | with_reducible refine Z.a_leI ?_
  | with_reducible refine Z.a_gtI ?_
  | with_reducible refine Z.a_geI ?_
  | with_reducible refine Z.a_eqI ?_
  | with_reducible refine Z.a_neI ?_
  | with_reducible refine Z.a_eqS ?_
  | with_reducible refine Z.a_neS ?_
  | with_reducible refine Z.a_eqB ?_
  | with_reducible refine Z.a_neB ?_
  | with_reducible refine Z.a_isN ?_
  | with_reducible refine Z.a_notN ?_
  | with_reducible refine Z.a_setL ?_
  | with_reducible refine Z.a_int ?_
  | with_reducible refine Z.a_intB ?_
  | with_reducible refine Z.a_abs ?_
  | with_reducible refine Z.a_max ?_
  | with_reducible refine Z.a_min ?_
  | with_reducible refine Z.s_lc ?_
  | with_reducible refine Z.s_for ?_
  | with_reducible refine Z.s_iList ?_
  | with_reducible refine Z.s_iTup ?_
  | with_reducible refine Z.s_iStr ?_
  | with_reducible refine Z.s_rng1 ?_
  | with_reducible refine Z.s_rng2 ?_
  | with_reducible refine Z.s_gtup ?_
  | with_reducible refine Z.s_gcons ?_
  | with_reducible refine Z.s_gnil ?_
  | with_reducible refine Z.s_yes ?_
  | with_reducible refine Z.s_ref (P := _) ?_
  | with_reducible refine Z.s_str (P := _) ?_
  | with_reducible refine Z.s_one (P := _) ?_
  | with_reducible refine Z.s_m1 ?_
  | with_reducible refine Z.s_m0 ?_
  | with_reducible refine Z.s_isStr ?_))
namespace Z
open PySem PySem.Spec PyProof.Rows L2 G
section
variable {P : Program} {w : World} {K : PySem.W.Frag} {mg : Str → Option Value} {base : Heap}
abbrev sStreams_sources : Stmt := inClass (topS 20) 1
theorem scStreams_sources : FnScope ["self"] ["self"] (defScope sStreams_sources) := ⟨rfl, rfl, rfl, by decide +kernel, rfl, by decide +kernel, by decide +kernel⟩
abbrev sStreams_sinks : Stmt := inClass (topS 20) 2
theorem scStreams_sinks : FnScope ["self"] ["self"] (defScope sStreams_sinks) := ⟨rfl, rfl, rfl, by decide +kernel, rfl, by decide +kernel, by decide +kernel⟩
theorem ok_get {f C : Addr} {fd : FuncData} (SC : StrmC K C) (F : Fun K "sources" "Streams.sources" sStreams_sources f fd) : FnOk P w K mg base CX0 1 f fd ["self"] (getSp C "_sources") := by
  refine F.ok scStreams_sources (fun vs H Q E h => ?_) (fun cdv A outer s H vs Q E hr h => ?_)
  · obtain ⟨a, dx, fs, v, rfl, _⟩ := h
    rfl
  · obtain ⟨a, dx, fs, v, rfl, ea, l, q⟩ := h
    exact ⟨_, (pss_one (ps_ret (pe_fld (pv 0) rfl))), ⟨.ref a, rfl, a, C, dx, fs, v, rfl, ea, SC.cl, SC.n1, l, q⟩⟩
theorem ok_get2 {f C : Addr} {fd : FuncData} (SC : StrmC K C) (F : Fun K "sinks" "Streams.sinks" sStreams_sinks f fd) : FnOk P w K mg base CX0 1 f fd ["self"] (getSp C "_sinks") := by
  refine F.ok scStreams_sinks (fun vs H Q E h => ?_) (fun cdv A outer s H vs Q E hr h => ?_)
  · obtain ⟨a, dx, fs, v, rfl, _⟩ := h
    rfl
  · obtain ⟨a, dx, fs, v, rfl, ea, l, q⟩ := h
    exact ⟨_, (pss_one (ps_ret (pe_fld (pv 0) rfl))), ⟨.ref a, rfl, a, C, dx, fs, v, rfl, ea, SC.cl, SC.n2, l, q⟩⟩
/-- the facts of the class and its methods that the law's defs lean on -/
structure Env2 (P : Program) (w : World) (K : PySem.W.Frag) (mg : Str → Option Value) (base : Heap) (C CI CF fI p1 p2 p3 f1 f2 f3 : Addr) (fdI fd1 fd2 fd3 : FuncData) : Prop where
  T : Txt2 mg
  SC : StrmC K C
  IC : IsC K C
  neO : PySem.W.findIn K (.ref C) "__ne__" = some (some (.builtin "object.__ne__"))
  mkS : Mk K C fI
  bI : Binds K fdI ["self", "sources", "sinks"] []
  g : mg "Streams" = some (.ref C)
  GI : FnOk P w K mg base (L2.CX P w) 6 fI fdI ["self", "sources", "sinks"] (spStreams K C CI)
  P1 : PropOf K C "sources" p1 f1
  G1 : FnOk P w K mg base CX0 1 f1 fd1 ["self"] (getSp C "_sources")
  b1 : Binds K fd1 ["self"] []
  P2 : PropOf K C "sinks" p2 f2
  G2 : FnOk P w K mg base CX0 1 f2 fd2 ["self"] (getSp C "_sinks")
  b2 : Binds K fd2 ["self"] []
  P3 : PropOf K C "names" p3 f3
  G3 : FnOk P w K mg base CX0 1 f3 fd3 ["self"] (getSp C "_names")
  b3 : Binds K fd3 ["self"] []
/-- streams are what a record says -/
def spTold2 (K : PySem.W.Frag) (C : Addr) : Sp := fun vs H Q _ => ∃ x r ps qs, vs = [.ref x, .ref r] ∧ StAt K C H x ps qs ∧ Strm ps qs ∧ Rec K H r ps qs ∧ ∀ H1, Same H H1 → Q (.bl true) H1
abbrev eight : List Str := ["zz", "qa", "x", "put", "end", "", "X", "a b"]
theorem no_blank {z : Str} (h : nameB z = true) : (32 : Nat) ∉ z.cps.toList := by
  intro m
  obtain ⟨_, _, l⟩ := wordB_len (name_w h)
  have := l 32 m
  exact absurd this (by decide)
/-- no name of these, whatever it is -/
def Odd (K : PySem.W.Frag) (zs : List Str) (H : Hp) (v : V) : Prop := ∃ d, Dz K H v d ∧ inD zs d = false
theorem Odd.same {zs : List Str} {H H1 : Hp} {v : V} (h : Odd K zs H v) (s : Same H H1) : Odd K zs H1 v :=
  let ⟨d, a, b⟩ := h
  ⟨d, Dz.same s _ _ a, b⟩
theorem strm_name {ps qs : List (Str × Str)} {j : Nat} {z y : Str} (sg : Strm ps qs) (h : (ps ++ qs)[j]? = some (z, y)) : NameAt ps qs j z y := ⟨h, sg.nd⟩
theorem strm_good {ps qs : List (Str × Str)} (sg : Strm ps qs) : ∀ p ∈ ps ++ qs, nameB p.1 = true ∧ signsB p.2 = true := fun p hp => (List.mem_append.mp hp).elim (sg.good p) (sg.good2 p)
abbrev s_law_is_told : Stmt := topS 33
theorem sc_law_is_told : FnScope ["streams", "record", "names", "kind", "at", "name", "signs", "told", "odd", "value"] ["streams", "record"] (defScope s_law_is_told) := ⟨rfl, rfl, rfl, by decide +kernel, rfl, by decide +kernel, by decide +kernel⟩
section
variable {f ftx C CI CF fI p1 p2 p3 f1 f2 f3 flen fstr feq fsg fis fix fct : Addr} {fd fdtx fdI fd1 fd2 fd3 fdlen fdstr fdeq fdsg fdis fdix fdct : FuncData}
theorem ok_is_told (V : Env2 P w K mg base C CI CF fI p1 p2 p3 f1 f2 f3 fdI fd1 fd2 fd3) (D : Def K mg "_law_is_told" s_law_is_told ["streams", "record"] f fd) (D_law_text : Def K mg "_law_text" s_law_text ["record"] ftx fdtx)
    (M__len__ : MethAt K C "__len__" "Streams.__len__" sStreams___len__ ["self"] flen fdlen) (M__str__ : MethAt K C "__str__" "Streams.__str__" sStreams___str__ ["self"] fstr fdstr) (G__str__ : FnOk P w K mg base CX0 2 fstr fdstr ["self"] (spStrS K C))
    (M__eq__ : MethAt K C "__eq__" "Streams.__eq__" sStreams___eq__ ["self", "other"] feq fdeq) (Msigns_of : MethAt K C "signs_of" "Streams.signs_of" sStreams_signs_of ["self", "name"] fsg fdsg)
    (Mis_source : MethAt K C "is_source" "Streams.is_source" sStreams_is_source ["self", "name"] fis fdis) (Mindex_of : MethAt K C "index_of" "Streams.index_of" sStreams_index_of ["self", "name"] fix fdix) (M__contains__ : MethAt K C "__contains__" "Streams.__contains__" sStreams___contains__ ["self", "value"] fct fdct) :
    FnG P w K mg base CX0 9 f fd ["streams", "record"] (spTold2 K C) := by
  obtain ⟨T, SC, IC, neO, MStreams, bStreams, gStreams, GStreams, Psources, Gsources, bsources, Psinks, Gsinks, bsinks, Pnames, Gnames, bnames⟩ := V
  have G_law_text : FnOk P w K mg base CX0 1 ftx fdtx ["record"] (spText K) := ok_text D_law_text
  have G__len__ : FnOk P w K mg base CX0 1 flen fdlen ["self"] (spLenS K C) := ok_len T SC M__len__
  have G__eq__ : FnOk P w K mg base CX0 1 feq fdeq ["self", "other"] (spEqP K C) := ok_eq T SC IC gStreams M__eq__
  have Gsigns_of : FnOk P w K mg base CX0 2 fsg fdsg ["self", "name"] (spSgn K C) := ok_signs_of T SC Msigns_of M__contains__
  have Gis_source : FnOk P w K mg base CX0 2 fis fdis ["self", "name"] (spIsSrc K C) := ok_is_source T SC Mis_source M__contains__
  have Gindex_of : FnOk P w K mg base CX0 3 fix fdix ["self", "name"] (spIdx K C) := ok_index_of T SC Mindex_of Mis_source M__contains__
  have G__contains__ : FnOk P w K mg base CX0 1 fct fdct ["self", "value"] (spContS K C) := ok_cont SC M__contains__
  refine of_calm D.F sc_law_is_told (fun vs H Q E h => ?_) (fun cdv A quiet outer s H vs Q E hr h => ?_)
  · obtain ⟨x, r, ps, qs, rfl, _⟩ := h
    rfl
  · obtain ⟨x, r, ps, qs, rfl, st, sg, ⟨t1, t2, hL, dz, dy⟩, k⟩ := h
    obtain ⟨dx, v, u, n, m, o, h1, h2, h3, ⟨po, h4⟩, h5⟩ := id st
    have hu := hr.units
    have hq : Quiet (A.deeper (envOfC "_law_is_told" (defScope s_law_is_told) s.heap.objs.size f cdv)) := quiet
    obtain ⟨_, xs1, e1, a1, d1⟩ := dz.tuple
    cases e1
    obtain ⟨_, xs2, e2, a2, d2⟩ := dy.tuple
    cases e2
    have n1 := d1.len
    have n2 := d2.len
    rw [List.length_map] at n1 n2
    have lp := sg.few
    have lq := sg.few2
    have good := strm_good sg
    refine ⟨_, (pss_cons (ps_set (i := 2) sc_law_is_told.nd rfl (by first | exact Or.inl rfl | exact Or.inr rfl) (pe_lc (own := [("name", 5), ("signs", 6)]) (by rfl) sc_law_is_told.nd (pi_tup (pe_op (Z.k_add (K := K)) (pe_ix (Z.k_item (K := K)) (pv 1) pe_int (fun _ _ => rfl)) (pe_ix (Z.k_item (K := K)) (pv 1) pe_int (fun _ _ => rfl)))) (blkOk_by (own := [("name", 5), ("signs", 6)]) (N := ["streams", "record", "names", "kind", "at", "name", "signs", "told", "odd", "value"]) (sc := defScope s_law_is_told) (by decide +kernel))
   (fun _ _ _ _ _ => (Z.k_tup (K := K) (n := 2) rfl (pgs_cons (pg_name (i := 5) sc_law_is_told.nd rfl (by first | exact Or.inl rfl | exact Or.inr rfl)) (pgs_cons (pg_name (i := 6) sc_law_is_told.nd rfl (by first | exact Or.inl rfl | exact Or.inr rfl)) pgs_nil)))) (fun _ _ _ _ _ => pts_nil) (fun _ _ _ _ _ => (pv 5))))
 (pss_cons (ps_if (pt_cmpR (Z.k_ne (K := K) hu) (pe_callB (Z.k_repr (K := K) hq hr) (by rfl) T.repr (by decide +kernel) (pa_cons (pe_lst (pa_cons (pe_prop (pv 0) SC.cl Psources Gsources (hr.mono (by decide)) bsources .nil pass0 rfl) (pa_cons (pe_prop (pv 0) SC.cl Psinks Gsinks (hr.mono (by decide)) bsinks .nil pass0 rfl) (pa_cons (pe_prop (pv 0) SC.cl Pnames Gnames (hr.mono (by decide)) bnames .nil pass0 rfl) pa_nil)))) pa_nil)) (pe_callB (Z.k_repr (K := K) hq hr) (by rfl) T.repr (by decide +kernel) (pa_cons (pe_lst (pa_cons (pe_ix (Z.k_item (K := K)) (pv 1) pe_int (fun _ _ => rfl)) (pa_cons (pe_ix (Z.k_item (K := K)) (pv 1) pe_int (fun _ _ => rfl)) (pa_cons (pe_callTy (Z.k_tuple (K := K)) (by rfl) T.tuple (by decide +kernel) (pa_cons (pv 2) pa_nil)) pa_nil)))) pa_nil)) (nomark _))
  (pss_one (ps_ret pe_bl))
  pss_nil)
 (pss_cons (ps_if (PW.pt (pw_or (pt_cmpR (Z.k_ne (K := K) hu) (pe_callB (Z.call_lenO G__len__ (hr.mono (by decide)) M__len__.at_ M__len__.fn M__len__.b pass0) (by rfl) T.len (by decide +kernel) (pa_cons (pv 0) pa_nil)) (pe_callB (Z.k_len (K := K)) (by rfl) T.len (by decide +kernel) (pa_cons (pv 2) pa_nil)) (nomark _)) (pw_or1 (pt_cmpR (Z.k_ne (K := K) hu) (pe_callTy (Z.call_strO G__str__ (hr.mono (by decide)) M__str__.at_ M__str__.fn M__str__.b pass0) (by rfl) T.str (by decide +kernel) (pa_cons (pv 0) pa_nil)) (pe_call G_law_text (hr.mono (by decide)) (by rfl) D_law_text.g D_law_text.F.kp D_law_text.b .nil pass0 (pa_cons (pv 1) pa_nil)) (nomark _)))))
  (pss_one (ps_ret pe_bl))
  pss_nil)
 (pss_cons (ps_for PassesOwn.never rfl (pi_range1 (by rfl) T.range (pa_cons pe_int pa_nil)) (pg_name (i := 3) sc_law_is_told.nd rfl (by first | exact Or.inl rfl | exact Or.inr rfl))
  (pss_one (ps_for PassesOwn.never rfl (pi_range1 (by rfl) T.range (pa_cons (pe_callB (Z.k_len (K := K)) (by rfl) T.len (by decide +kernel) (pa_cons (pe_ix (Z.k_item (K := K)) (pv 1) (pv 3) (fun _ _ => rfl)) pa_nil)) pa_nil)) (pg_name (i := 4) sc_law_is_told.nd rfl (by first | exact Or.inl rfl | exact Or.inr rfl))
  (pss_cons (ps_asg (pe_ix (Z.k_item (K := K)) (pe_ix (Z.k_item (K := K)) (pv 1) (pv 3) (fun _ _ => rfl)) (pv 4) (fun _ _ => rfl)) (Z.k_tup (K := K) (n := 2) rfl (pgs_cons (pg_name (i := 5) sc_law_is_told.nd rfl (by first | exact Or.inl rfl | exact Or.inr rfl)) (pgs_cons (pg_name (i := 6) sc_law_is_told.nd rfl (by first | exact Or.inl rfl | exact Or.inr rfl)) pgs_nil))))
 (pss_cons (ps_set (i := 7) sc_law_is_told.nd rfl (by first | exact Or.inl rfl | exact Or.inr rfl) (pe_lst (pa_cons (pe_meth (pv 0) SC.cl Msigns_of.meth Gsigns_of (hr.mono (by decide)) Msigns_of.b .nil pass0 (pa_cons (pv 5) pa_nil)) (pa_cons (pe_meth (pv 0) SC.cl Mis_source.meth Gis_source (hr.mono (by decide)) Mis_source.b .nil pass0 (pa_cons (pv 5) pa_nil)) (pa_cons (pe_meth (pv 0) SC.cl Mindex_of.meth Gindex_of (hr.mono (by decide)) Mindex_of.b .nil pass0 (pa_cons (pv 5) pa_nil)) (pa_cons (pe_cmpR (Z.op_inO G__contains__ (hr.mono (by decide)) M__contains__.at_ M__contains__.fn M__contains__.b pass0) (pv 5) (pv 0) (by rfl)) pa_nil))))))
 (pss_one (ps_if (pt_cmpR (Z.k_ne (K := K) hu) (pe_callB (Z.k_repr (K := K) hq hr) (by rfl) T.repr (by decide +kernel) (pa_cons (pv 7) pa_nil)) (pe_callB (Z.k_repr (K := K) hq hr) (by rfl) T.repr (by decide +kernel) (pa_cons (pe_lst (pa_cons (pv 6) (pa_cons (pe_cmpR (Z.k_eq (K := K) hu) (pv 3) pe_int (nomark _)) (pa_cons (pv 4) (pa_cons pe_bl pa_nil))))) pa_nil)) (nomark _))
  (pss_one (ps_ret pe_bl))
  pss_nil)))))))
 (pss_cons (ps_setLc (i := 8) (own := [("name", 5)]) (by rfl) sc_law_is_told.nd rfl rfl (sw_true rfl rfl rfl (by decide +kernel)) (pi_tup (pe_tup (pa_cons pe_str (pa_cons pe_str (pa_cons pe_str (pa_cons pe_str (pa_cons pe_str (pa_cons pe_str (pa_cons pe_str (pa_cons pe_str pa_nil)))))))))) (blkOk_by (own := [("name", 5)]) (N := ["streams", "record", "names", "kind", "at", "name", "signs", "told", "odd", "value"]) (sc := defScope s_law_is_told) (by decide +kernel))
   (fun _ _ _ _ _ => (pg_name (i := 5) sc_law_is_told.nd rfl (by first | exact Or.inl rfl | exact Or.inr rfl))) (fun _ _ _ _ _ => pts_one (pt_cmpR (Z.k_notIn (K := K)) (pv 5) (pv 2) (by rfl))) (fun _ _ _ _ _ => (pv 5)))
 (pss_cons (ps_setLc (i := 7) (own := [("value", 9)]) (by rfl) sc_law_is_told.nd rfl rfl (sw_true rfl rfl rfl (by decide +kernel)) (pi_list (pe_op (Z.k_add (K := K)) (pv 8) (pe_lst (pa_cons pe_non (pa_cons pe_int (pa_cons (pe_tup (pa_cons pe_str pa_nil)) (pa_cons (pe_lst (pa_cons pe_str pa_nil)) (pa_cons pe_dnewK (pa_cons pe_bl (pa_cons (pe_ix (Z.k_item (K := K)) (pv 1) pe_int (fun _ _ => rfl)) (pa_cons (pe_op (Z.k_add (K := K)) (pe_ix (Z.k_item (K := K)) (pv 2) pe_int (fun _ _ => rfl)) pe_str) pa_nil))))))))))) (blkOk_by (own := [("value", 9)]) (N := ["streams", "record", "names", "kind", "at", "name", "signs", "told", "odd", "value"]) (sc := defScope s_law_is_told) (by decide +kernel))
   (fun _ _ _ _ _ => (pg_name (i := 9) sc_law_is_told.nd rfl (by first | exact Or.inl rfl | exact Or.inr rfl))) (fun _ _ _ _ _ => pts_nil) (fun _ _ _ _ _ => (pe_cmpR (Z.op_inO G__contains__ (hr.mono (by decide)) M__contains__.at_ M__contains__.fn M__contains__.b pass0) (pv 9) (pv 0) (by rfl))))
 (pss_one (ps_ret (pe_and (pe_cmpR (Z.k_eq (K := K) hu) (pv 7) (pe_op Z.op_mul (pe_lst (pa_cons pe_bl pa_nil)) (pe_callB (Z.k_len (K := K)) (by rfl) T.len (by decide +kernel) (pa_cons (pv 7) pa_nil))) (nomark _)) (pe_and (pe_cmpR (Z.op_eqO G__eq__ (hr.mono (by decide)) M__eq__.at_ M__eq__.fn M__eq__.b pass0) (pv 0) (pe_make (E := E0) MStreams GStreams (hr.mono (by decide)) (by rfl) gStreams bStreams .nil passL (pa_cons (pe_ix (Z.k_item (K := K)) (pv 1) pe_int (fun _ _ => rfl)) (pa_cons (pe_ix (Z.k_item (K := K)) (pv 1) pe_int (fun _ _ => rfl)) pa_nil))) (nomark _)) (pe_one (pe_not (pe_cmpR (Z.op_neO G__eq__ (hr.mono (by decide)) M__eq__.at_ M__eq__.fn IC.hm neO M__eq__.b pass0) (pv 0) (pv 0) (nomark _)))))))))))))), ?_⟩
    walk_at "st"
    refine item hL (by rfl) ?_
    walk_at "st"
    refine item hL (by rfl) ?_
    refine cat_tup a1 a2 (by omega) fun p1 H1 s1 sq1 => ?_
    refine ⟨p1, rfl, ⟨_, sq1⟩, comp_nm (ps := ps ++ qs) sq1 (by rw [List.map_append]; exact (DzAll.same s1 _ _ d1).app (DzAll.same s1 _ _ d2)) (by rw [List.length_append]; omega) (fun _ _ => rfl) (fun _ _ => rfl) ?_⟩
    intro nm H2 fnm s2 hnm
    have s02 := s1.trans s2
    obtain ⟨zs, ezs⟩ : ∃ zs, zs = (ps ++ qs).map (·.1) := ⟨_, rfl⟩
    have lz : zs.length = ps.length + qs.length := by rw [ezs, List.length_map, List.length_append]
    have nz : ∀ z ∈ zs, nameB z = true := by
      rw [ezs]
      intro z hz
      obtain ⟨p, hp, rfl⟩ := List.mem_map.mp hz
      exact (good p hp).1
    rw [← ezs] at hnm
    walk_at "st"
    with_reducible refine s_prop ?_
    walk_at "st"
    refine ⟨x, dx, _, rfl, s02 _ _ h1, x, dx, _, v, rfl, s02 _ _ h1, sF_1 _ _ _ _, ?_⟩
    walk_at "st"
    with_reducible refine s_prop ?_
    walk_at "st"
    refine ⟨x, dx, _, rfl, s02 _ _ h1, x, dx, _, u, rfl, s02 _ _ h1, sF_2 _ _ _ _, ?_⟩
    walk_at "st"
    with_reducible refine s_prop ?_
    walk_at "st"
    refine ⟨x, dx, _, rfl, s02 _ _ h1, x, dx, _, .ref n, rfl, s02 _ _ h1, sF_3 _ _ _ _, ?_⟩
    walk_at "st"
    refine ⟨by show 3 ≤ sizeLine; decide, fun q3 nq3 => ?_⟩
    generalize g3 : upd H2 q3 _ = H3
    have s3 : Same H2 H3 := by rw [← g3]; exact same_new (Same.refl H2) nq3
    have at3 : H3 q3 = some (.lst [v, u, .ref n]) := by rw [← g3]; exact upd_same
    have s03 := s02.trans s3
    have dn : Dz K H3 (.ref n) (.tuple (zs.map .str)) := by
      rw [ezs]
      exact .tup (sqt_frz (s03 _ _ h4)) (DzAll.strs _)
    have fit : Fit 10000000 3 (.list [.tuple (ps.map prD), .tuple (qs.map prD), .tuple (zs.map .str)]) := by
      refine Fit.lst (W := 1000) (k := 3) (fun e he => ?_) (Nat.le_refl _) (by decide)
      simp only [List.mem_cons, List.not_mem_nil, or_false] at he
      rcases he with rfl | rfl | rfl
      · exact fit_parts lp sg.good
      · exact fit_parts lq sg.good2
      · exact (fit_names (by omega) nz).mono (Nat.le_refl _) (by decide)
    walk_at "st"
    refine repr_of (n := 3) (.lst (SqL.of at3) (.cons (Dz.same s03 _ _ h2) (.cons (Dz.same s03 _ _ h3) (.cons dn .nil)))) fit (by decide) ?_
    walk_at "st"
    refine item (s03.seq hL) (by rfl) ?_
    walk_at "st"
    refine item (s03.seq hL) (by rfl) ?_
    walk_at "st"
    refine ⟨_, .inl ⟨SqL.of (s3 _ _ hnm), fun t4 nt4 => ?_⟩⟩
    generalize g4 : upd H3 t4 _ = H4
    have s4 : Same H3 H4 := by rw [← g4]; exact same_new (Same.refl H3) nt4
    have at4 : SqT K H4 t4 (oneOf zs) := by rw [← g4]; exact SqT.of upd_same
    walk_at "st"
    refine ⟨by show 3 ≤ sizeLine; decide, fun q5 nq5 => ?_⟩
    generalize g5 : upd H4 q5 _ = H5
    have s5 : Same H4 H5 := by rw [← g5]; exact same_new (Same.refl H4) nq5
    have at5 : H5 q5 = some (.lst [.ref t1, .ref t2, .ref t4]) := by rw [← g5]; exact upd_same
    have s05 := s03.trans (s4.trans s5)
    walk_at "st"
    refine repr_of (n := 3) (.lst (SqL.of at5) (.cons (Dz.same s05 _ _ dz) (.cons (Dz.same s05 _ _ dy) (.cons (.tup (same_sqt s5 at4) (DzAll.strs _)) .nil)))) fit (by decide) ?_
    walk_at "st"
    rw [decide_eq_true rfl]
    refine iteF ?_
    have st5 := st.same s05
    have hnm5 := s5 _ _ (s4 _ _ (s3 _ _ hnm))
    walk_at "st"
    refine ⟨x, dx, _, rfl, s05 _ _ h1, x, ps, qs, rfl, st5, (ps ++ qs).length, rfl, by rw [List.length_append]; omega, ?_⟩
    walk_at "st"
    refine .inl ⟨_, .inl (SqL.of hnm5), ?_⟩
    walk_at "st"
    rw [List.length_map, List.length_append, decide_eq_true (show (((ps.length + qs.length : Nat)) : Int) = ((zs.length : Nat) : Int) by omega)]
    refine iteF ?_
    walk_at "st"
    refine ⟨x, dx, _, rfl, s05 _ _ h1, x, ps, qs, rfl, st5, sg.good, sg.good2, lp, lq, fun H6 s6 => ⟨_, rfl, ?_⟩⟩
    have s06 := s05.trans s6
    walk_at "st"
    refine ⟨r, ps, qs, rfl, ⟨t1, t2, s06.seq hL, Dz.same s06 _ _ dz, Dz.same s06 _ _ dy⟩, sg.good, sg.good2, lp, lq, fun H7 s7 => ?_⟩
    have s07 := s06.trans s7
    have hnm7 := s7 _ _ (s6 _ _ hnm5)
    walk_at "st"
    rw [decide_eq_true rfl]
    refine iteF ?_
    walk_at "st"
    refine ⟨by decide, by decide, loop walkR (fun i σ2 H2 => (∃ x3 x4 x5 x6 x7 x8 x9, σ2 = [some (.ref x), some (.ref r), some (.ref nm), x3, x4, x5, x6, x7, x8, x9]) ∧ Same H7 H2) ⟨⟨_, _, _, _, _, _, _, rfl⟩, Same.refl H7⟩ (fun _ _ _ _ => trivial) ?_ ?_⟩
    · rintro i x0 σ2 H8 hi rfl ⟨⟨x3, x4, x5, x6, x7, x8, x9, rfl⟩, s8⟩
      have s08 := s07.trans s8
      have hi2 : i < 2 := hi
      obtain ⟨tk, xk, pk, off, hit, hk, dk, hat, ho⟩ : ∃ tk xk, ∃ pk : List (Str × Str), ∃ off : Nat, atI [V.ref t1, V.ref t2] (0 + (i : Int)) = some (.ref tk) ∧ SqT K H tk xk ∧ DzAll K H xk (pk.map prD) ∧ (∀ (j : Nat) (q : Str × Str), pk[j]? = some q → (ps ++ qs)[off + j]? = some q) ∧
          ((i = 0 ∧ off = 0 ∧ pk.length = ps.length) ∨ (i = 1 ∧ off = ps.length)) := by
        rcases (show i = 0 ∨ i = 1 by omega) with rfl | rfl
        · refine ⟨t1, xs1, ps, 0, rfl, a1, d1, fun j q hj => ?_, .inl ⟨rfl, rfl, rfl⟩⟩
          rw [Nat.zero_add, List.getElem?_append_left (List.getElem?_eq_some_iff.mp hj).1]
          exact hj
        · refine ⟨t2, xs2, qs, ps.length, rfl, a2, d2, fun j q hj => ?_, .inr ⟨rfl, rfl⟩⟩
          rw [List.getElem?_append_right (by omega), Nat.add_sub_cancel_left]
          exact hj
      have nk := dk.len
      rw [List.length_map] at nk
      have lk : pk.length ≤ 6 := by
        refine Classical.byContradiction fun c => ?_
        have e := hat (pk.length - 1) pk[pk.length - 1] (List.getElem?_eq_getElem (by omega))
        have := (List.getElem?_eq_some_iff.mp e).1
        rw [List.length_append] at this
        omega
      walk_at "st"
      refine item (s08.seq hL) hit ?_
      walk_at "st"
      refine .inl ⟨_, .inr (same_sqt s08 hk), ?_⟩
      walk_at "st"
      refine ⟨by omega, by omega, loop walkR (fun j σ3 H9 => (∃ x4 x5 x6 x7 x8 x9, σ3 = [some (.ref x), some (.ref r), some (.ref nm), some (.int (0 + (i : Int))), x4, x5, x6, x7, x8, x9]) ∧ Same H7 H9) ⟨⟨_, _, _, _, _, _, rfl⟩, s8⟩ (fun _ _ _ _ => trivial) ?_ ?_⟩
      · rintro j x1 σ3 H9 hj rfl ⟨⟨x4, x5, x6, x7, x8, x9, rfl⟩, s9⟩
        have s09 := s07.trans s9
        have hj2 : j < pk.length := by omega
        obtain ⟨z, y, ezy⟩ : ∃ z y, pk[j] = (z, y) := ⟨_, _, rfl⟩
        have pj : pk[j]? = some (z, y) := by rw [List.getElem?_eq_getElem hj2, ezy]
        have na := strm_name sg (hat j _ pj)
        have gd := good (z, y) (List.mem_of_getElem? (hat j _ pj))
        obtain ⟨d, hd, dxj⟩ := dk.get (i := j) (List.getElem?_eq_getElem (by omega : j < xk.length))
        rw [List.getElem?_map, pj] at hd
        have ed : d = prD (z, y) := (Option.some.inj hd).symm
        rw [ed] at dxj
        obtain ⟨ax, zx, ex, hax, hzx⟩ := dxj.tuple
        cases hzx with
        | cons q1 q =>
          cases q with
          | cons q2 q =>
            cases q
            cases q1
            cases q2
            walk_at "st"
            refine item (s09.seq hL) hit ?_
            walk_at "st"
            refine itemT (same_sqt s09 hk) (v := .ref ax) ?_ ?_
            · refine atI_lt (by omega) ?_
              rw [show (0 + (j : Int)).toNat = j by omega, List.getElem?_eq_getElem (by omega : j < xk.length), ex]
            refine ⟨ax, _, rfl, same_sqt s09 hax, rfl, ?_⟩
            walk_at "st"
            have st9 := st.same s09
            have h19 := s09 _ _ h1
            with_reducible refine s_meth ?_
            walk_at "st"
            refine ⟨x, dx, _, rfl, h19, sF_no (by decide +kernel) (by decide +kernel) (by decide +kernel) (by decide +kernel), ?_⟩
            walk_at "st"
            refine ⟨x, ps, qs, off + j, z, y, rfl, st9, na, ?_⟩
            walk_at "st"
            with_reducible refine s_meth ?_
            walk_at "st"
            refine ⟨x, dx, _, rfl, h19, sF_no (by decide +kernel) (by decide +kernel) (by decide +kernel) (by decide +kernel), ?_⟩
            walk_at "st"
            refine ⟨x, ps, qs, off + j, z, y, rfl, st9, na, ?_⟩
            walk_at "st"
            with_reducible refine s_meth ?_
            walk_at "st"
            refine ⟨x, dx, _, rfl, h19, sF_no (by decide +kernel) (by decide +kernel) (by decide +kernel) (by decide +kernel), ?_⟩
            walk_at "st"
            refine ⟨x, ps, qs, off + j, z, y, rfl, st9, na, ?_⟩
            walk_at "st"
            refine ⟨x, dx, _, rfl, h19, x, ps, qs, _, _, rfl, st9, .str z, _, rfl, ?_⟩
            walk_at "st"
            rw [show inD ((ps ++ qs).map (·.1)) (.str z) = true from decide_eq_true na.mem]
            refine ⟨by show 4 ≤ sizeLine; decide, fun q6 nq6 => ?_⟩
            generalize g6 : upd H9 q6 _ = H10
            have s10 : Same H9 H10 := by rw [← g6]; exact same_new (Same.refl H9) nq6
            have at6 : H10 q6 = some (.lst [.str y, .bl (decide (off + j < ps.length)), .int ((if off + j < ps.length then off + j else off + j - ps.length : Nat)), .bl true]) := by rw [← g6]; exact upd_same
            have small : ((if off + j < ps.length then off + j else off + j - ps.length : Nat)) = j := by
              rcases ho with ⟨_, e0, e1⟩ | ⟨_, e0⟩
              · rw [if_pos (by omega)]
                omega
              · rw [if_neg (by omega)]
                omega
            have truth : decide (off + j < ps.length) = decide ((0 : Int) + (i : Int) = 0) := by
              rcases ho with ⟨e2, e0, e1⟩ | ⟨e2, e0⟩
              · rw [decide_eq_true (by omega), decide_eq_true (by omega)]
              · rw [decide_eq_false (by omega), decide_eq_false (by omega)]
            rw [small, truth] at at6
            have fit4 : Fit 10000000 1 (.list [.str y, .bool (decide ((0 : Int) + (i : Int) = 0)), .int (j : Nat), .bool true]) := by
              refine Fit.lst (W := 1000) (k := 4) (fun e he => ?_) (Nat.le_refl _) (by decide)
              simp only [List.mem_cons, List.not_mem_nil, or_false] at he
              rcases he with rfl | rfl | rfl | rfl
              · exact ((Sm.of_word (signs_w gd.2)).fit).mono (by decide) (Nat.le_refl _)
              · exact Fit.bool (by decide)
              · have : j = 0 ∨ j = 1 ∨ j = 2 ∨ j = 3 ∨ j = 4 ∨ j = 5 := by omega
                rcases this with rfl | rfl | rfl | rfl | rfl | rfl <;> exact Fit.int (by decide +kernel) (by decide +kernel)
              · exact Fit.bool (by decide)
            walk_at "st"
            refine repr_of (n := 1) (.lst (SqL.of at6) (.cons (.str y) (.cons (.bl _) (.cons (.int _) (.cons (.bl true) .nil))))) fit4 (by decide) ?_
            walk_at "st"
            refine ⟨by show 4 ≤ sizeLine; decide, fun q7 nq7 => ?_⟩
            generalize g7 : upd H10 q7 _ = H11
            have s11 : Same H10 H11 := by rw [← g7]; exact same_new (Same.refl H10) nq7
            have at7 : H11 q7 = some (.lst [.str y, .bl (decide ((0 : Int) + (i : Int) = 0)), .int (0 + (j : Int)), .bl true]) := by rw [← g7]; exact upd_same
            rw [show (0 : Int) + (j : Int) = ((j : Nat) : Int) by omega] at at7
            walk_at "st"
            refine repr_of (n := 1) (.lst (SqL.of at7) (.cons (.str y) (.cons (.bl _) (.cons (.int _) (.cons (.bl true) .nil))))) fit4 (by decide) ?_
            walk_at "st"
            rw [decide_eq_true rfl]
            refine iteF ?_
            walk_at "st"
            exact ⟨⟨_, _, _, _, _, _, rfl⟩, s9.trans (s10.trans s11)⟩
      · rintro σ3 H9 ⟨⟨x4, x5, x6, x7, x8, x9, rfl⟩, s9⟩
        walk_at "st"
        exact ⟨⟨_, _, _, _, _, _, _, rfl⟩, s9⟩
    · rintro σ2 H8 ⟨⟨x3, x4, x5, x6, x7, x8, x9, rfl⟩, s8⟩
      have s08 := s07.trans s8
      have hnm8 := s8 _ _ hnm7
      walk_at "st"
      refine ⟨by show 8 ≤ sizeLine; decide, fun p np => ?_⟩
      generalize g9 : upd H8 p _ = H9
      have s9 : Same H8 H9 := by rw [← g9]; exact same_new (Same.refl H8) np
      have at9 : H9 p = some (.tup (oneOf eight)) := by rw [← g9]; exact upd_same
      have hnm9 := s9 _ _ hnm8
      walk_at "st"
      refine ⟨⟨_, SqT.of at9⟩, comp (walkT (xs := oneOf eight)) (Same H9) (fun i acc H2 => acc = oneOf ((eight.take i).filter fun z => decide (z ∉ zs))) (Same.refl H9) (fun L o H2 e m => same_upd m e) (fun _ _ _ _ _ _ _ h => h) rfl (fun _ _ H2 m _ => SqT.of (m _ _ at9)) ?_ ?_⟩
      · rintro L i acc x1 H2 fresh hi hx len m2 at_ rfl
        have hi8 : i < eight.length := hi
        have ex : x1 = .str eight[i] := by
          rw [List.getElem?_map, List.getElem?_eq_getElem hi8] at hx
          exact (Option.some.inj hx).symm
        rw [ex]
        refine turnIf rfl ?_
        have tk : eight.take (i + 1) = eight.take i ++ [eight[i]] := by
          rw [List.take_add_one, List.getElem?_eq_getElem hi8]
          rfl
        walk_at "st"
        refine ⟨nm, oneOf zs, rfl, .inl (SqL.of (m2 _ _ hnm9)), rfl, flat_strs zs, ?_⟩
        rw [inV_str]
        walk_at "st"
        by_cases hz : eight[i] ∈ zs
        · rw [decide_eq_true hz]
          refine iteF (skip at_ len m2 ?_)
          rw [tk, List.filter_append]
          simp [hz]
        · rw [decide_eq_false hz]
          refine iteT ?_
          walk_at "st"
          refine put fresh (fun L o H2 e m => same_upd m e) (fun _ _ _ _ _ _ _ h => h) at_ (Nat.lt_trans hi8 (by decide)) len m2 ?_
          rw [tk, List.filter_append]
          simp [hz]
      · rintro od acc H10 fod len s10 hod eod
        have full : eight.take (oneOf eight).length = eight := rfl
        rw [full] at eod
        obtain ⟨es, ees⟩ : ∃ es, es = eight.filter fun z => decide (z ∉ zs) := ⟨_, rfl⟩
        rw [← ees] at eod
        rw [eod] at hod
        have les : es.length ≤ 8 := by
          rw [ees]
          exact List.length_filter_le _ _
        have nes : ∀ z ∈ es, z ∉ zs := by
          rw [ees]
          intro z hz
          exact of_decide_eq_true (List.mem_filter.mp hz).2
        have s010 := s08.trans (s9.trans s10)
        have hnm10 := s10 _ _ hnm9
        walk_at "st"
        refine ⟨by show 1 ≤ sizeLine; decide, fun q1 nq1 => ?_⟩
        generalize k1 : upd H10 q1 _ = J1
        have r1 : Same H10 J1 := by rw [← k1]; exact same_new (Same.refl H10) nq1
        have w1 : J1 q1 = some (.tup (oneOf ["x"])) := by rw [← k1]; exact upd_same
        walk_at "st"
        refine ⟨by show 1 ≤ sizeLine; decide, fun q2 nq2 => ?_⟩
        generalize k2 : upd J1 q2 _ = J2
        have r2 : Same J1 J2 := by rw [← k2]; exact same_new (Same.refl J1) nq2
        have w2 : J2 q2 = some (.lst (oneOf ["x"])) := by rw [← k2]; exact upd_same
        walk_at "st"
        refine s_dnew fun q3 nq3 => ?_
        generalize k3 : upd J2 q3 _ = J3
        have r3 : Same J2 J3 := by rw [← k3]; exact same_new (Same.refl J2) nq3
        have w3 : J3 q3 = some (.dK []) := by rw [← k3]; exact upd_same
        have r13 := r1.trans (r2.trans r3)
        walk_at "st"
        refine item ((s010.trans r13).seq hL) (by rfl) ?_
        walk_at "st"
        have lz0 : 0 < zs.length := by have := sg.one; omega
        refine item (SqL.of (r13 _ _ hnm10)) (v := .str zs[0]) ?_ ?_
        · show atI (oneOf zs) 0 = _
          cases zs with
          | nil => exact absurd lz0 (by simp)
          | cons z zs => exact at_0
        have nz0 := nz zs[0] (List.getElem_mem lz0)
        have l8 := (wordB_len (name_w nz0)).2.1
        have c1 : (Str.ofString " ").length = 1 := by decide +kernel
        walk_at "st"
        refine ⟨by rw [c1, sizeLine_eq]; omega, ?_⟩
        walk_at "st"
        refine ⟨by show 8 ≤ sizeLine; decide, fun q4 nq4 => ?_⟩
        generalize k4 : upd J3 q4 _ = J4
        have r4 : Same J3 J4 := by rw [← k4]; exact same_new (Same.refl J3) nq4
        obtain ⟨tl, etl⟩ : ∃ tl : List V, tl = [V.non, .int 0, .ref q1, .ref q2, .ref q3, .bl true, .ref t1, .str (zs[0] ++ Str.ofString " ")] := ⟨_, rfl⟩
        have w4 : J4 q4 = some (.lst tl) := by rw [← k4, etl]; exact upd_same
        have ltl : tl.length = 8 := by rw [etl]; rfl
        have r14 := r13.trans r4
        refine cat_lst (r14 _ _ hod) w4 (by rw [List.length_map, ltl]; omega) fun q5 nq5 => ?_
        generalize k5 : upd J4 q5 _ = J5
        have r5 : Same J4 J5 := by rw [← k5]; exact same_new (Same.refl J4) nq5
        have w5 : J5 q5 = some (.lst (oneOf es ++ tl)) := by rw [← k5]; exact upd_same
        have r15 := r14.trans r5
        have s015 := s010.trans r15
        have odd : ∀ v ∈ oneOf es ++ tl, Odd K zs J5 v := by
          intro v hv
          have so : ∀ z : Str, z ∉ zs → Odd K zs J5 (.str z) := fun z hz => ⟨.str z, .str z, decide_eq_false hz⟩
          rcases List.mem_append.mp hv with hv | hv
          · obtain ⟨z, hz, rfl⟩ := List.mem_map.mp hv
            exact so z (nes z hz)
          · rw [etl] at hv
            simp only [List.mem_cons, List.not_mem_nil, or_false] at hv
            rcases hv with rfl | rfl | rfl | rfl | rfl | rfl | rfl | rfl
            · exact ⟨_, .non, rfl⟩
            · exact ⟨_, .int 0, rfl⟩
            · exact ⟨_, .tup (SqT.of (r5 _ _ (r4 _ _ (r3 _ _ (r2 _ _ w1))))) (DzAll.strs ["x"]), rfl⟩
            · exact ⟨_, .lst (SqL.of (r5 _ _ (r4 _ _ (r3 _ _ w2)))) (DzAll.strs ["x"]), rfl⟩
            · exact ⟨.dict [], .dic (r5 _ _ (r4 _ _ w3)) .nil .nil, rfl⟩
            · exact ⟨_, .bl true, rfl⟩
            · exact ⟨_, Dz.same s015 _ _ dz, rfl⟩
            · refine so _ fun hm => ?_
              refine no_blank (nz _ hm) ?_
              rw [PySem.Str.cps_append, Array.toList_append]
              exact List.mem_append_right _ (by decide +kernel)
        have lall : (oneOf es ++ tl).length ≤ 16 := by
          rw [List.length_append, List.length_map, ltl]
          omega
        refine ⟨q5, rfl, ⟨_, SqL.of w5⟩, comp (walkL (xs := oneOf es ++ tl)) (Same J5) (fun i acc H2 => acc = (List.replicate i false).map V.bl) (Same.refl J5) (fun L o H2 e m => same_upd m e) (fun _ _ _ _ _ _ _ h => h) rfl (fun _ _ H2 m _ => SqL.of (m _ _ w5)) ?_ ?_⟩
        · rintro L i acc x1 H2 fresh hi hx len m2 at_ rfl
          obtain ⟨d, dd, nd⟩ := (odd x1 (List.mem_of_getElem? hx)).same m2
          have s2' := s015.trans m2
          refine turn1 rfl ?_
          walk_at "st"
          refine ⟨x, dx, _, rfl, s2' _ _ h1, x, ps, qs, x1, d, rfl, st.same s2', dd, _, rfl, ?_⟩
          rw [← ezs, nd]
          refine put fresh (fun L o H2 e m => same_upd m e) (fun _ _ _ _ _ _ _ h => h) at_ (by omega) len m2 ?_
          rw [List.replicate_succ', List.map_append]
          rfl
        · rintro tld acc H11 ftld len s11 htld rfl
          generalize (oneOf es ++ tl).length = many at htld lall
          have s011 := s015.trans s11
          walk_at "st"
          refine ⟨by show 1 ≤ sizeLine; decide, fun q6 nq6 => ?_⟩
          generalize k6 : upd H11 q6 _ = J6
          have r6 : Same H11 J6 := by rw [← k6]; exact same_new (Same.refl H11) nq6
          have w6 : J6 q6 = some (.lst [V.bl false]) := by rw [← k6]; exact upd_same
          walk_at "st"
          refine .inl ⟨_, .inl (SqL.of (r6 _ _ htld)), ?_⟩
          rw [List.length_map, List.length_replicate]
          refine rep_one w6 (by omega) fun q7 nq7 => ?_
          generalize k7 : upd J6 q7 _ = J7
          have r7 : Same J6 J7 := by rw [← k7]; exact same_new (Same.refl J6) nq7
          have w7 : J7 q7 = some (.lst ((List.replicate many false).map V.bl)) := by rw [← k7]; exact upd_same
          refine eq_bools (r7 _ _ (r6 _ _ htld)) w7 ?_
          rw [decide_eq_true rfl]
          refine s_bl (P := _) ?_
          refine iteT ?_
          have s012 := s011.trans (r6.trans r7)
          walk_at "st"
          with_reducible refine s_make ?_
          walk_at "st"
          refine item (s012.seq hL) (by rfl) ?_
          walk_at "st"
          refine item (s012.seq hL) (by rfl) ?_
          walk_at "st"
          intro y dy2 ny ndy ne
          refine make_ok2 ny ndy ne (Dz.same s012 _ _ dz) (Dz.same s012 _ _ dy) sg fun H13 s13 st13 => ?_
          have s013 := s012.trans s13
          obtain ⟨dx', _, _, _, _, _, h1', _⟩ := id st13
          refine ⟨x, y, dx, dx', _, _, rfl, rfl, s013 _ _ h1, h1', x, y, ps, qs, ps, qs, rfl, st.same s013, st13, sg.good, sg.good2, sg.good, sg.good2, _, rfl, ?_⟩
          rw [decide_eq_true (⟨rfl, rfl⟩ : ps = ps ∧ qs = qs)]
          refine s_bl (P := _) ?_
          refine iteT ?_
          walk_at "st"
          refine ⟨x, x, dx, dx, _, _, rfl, rfl, s013 _ _ h1, s013 _ _ h1, x, x, ps, qs, ps, qs, rfl, st.same s013, st.same s013, sg.good, sg.good2, sg.good, sg.good2, _, rfl, ?_⟩
          rw [decide_eq_true (⟨rfl, rfl⟩ : ps = ps ∧ qs = qs)]
          refine s_bl (P := _) ?_
          exact k H13 s013
end
end
end Z
/-! Objects beside the pot; rows of words, right and wrong ones. -/
namespace Z
open PySem PySem.Spec PyProof.Rows L2 G
section
variable {P : Program} {w : World} {K : PySem.W.Frag} {mg : Str → Option Value} {base : Heap}
theorem sqt_mv {a p : Addr} {H H1 : Hp} {xs : List V} (h : SqT K (hid a H) p xs) (m : Mv a H H1) : SqT K (hid a H1) p xs := same_sqt m.same h
theorem sql_mv {a p : Addr} {H H1 : Hp} {xs : List V} (h : SqL K (hid a H) p xs) (m : Mv a H H1) : SqL K (hid a H1) p xs := m.same.seq h
/-- a new tuple, list, dict beside the pot -/
theorem tupM {a : Addr} {H : Hp} {Q : VK} {xs : List V} (pot : Pot a H) (few : xs.length ≤ 1000) (q : ∀ p H1, Mv a H H1 → SqT K (hid a H1) p xs → Q (.ref p) H1) : xs.length ≤ sizeLine ∧ ∀ p, H p = none → Q (.ref p) (upd H p (.tup xs)) := by
  refine ⟨by rw [sizeLine_eq]; omega, fun p np => ?_⟩
  have m : Mv a H (upd H p (.tup xs)) := (Mv.refl pot).new np
  refine q p _ m (SqT.of ?_)
  rw [hid_ne (Mv.ne pot (Mv.refl pot) np)]
  exact upd_same
theorem lstM {a : Addr} {H : Hp} {Q : VK} {xs : List V} (pot : Pot a H) (few : xs.length ≤ 1000) (q : ∀ p H1, Mv a H H1 → H p = none → p ≠ a → H1 p = some (.lst xs) → Q (.ref p) H1) : xs.length ≤ sizeLine ∧ ∀ p, H p = none → Q (.ref p) (upd H p (.lst xs)) :=
  ⟨by rw [sizeLine_eq]; omega, fun p np => q p _ ((Mv.refl pot).new np) np (Mv.ne pot (Mv.refl pot) np) upd_same⟩
theorem dnewM {a : Addr} {σ : L2.St} {H : Hp} {Q : VK} (pot : Pot a H) (q : ∀ p H1, Mv a H H1 → Dz K (hid a H1) (.ref p) (.dict []) → Q (.ref p) H1) : tDNewK σ H Q := by
  refine s_dnew fun p np => ?_
  have m : Mv a H (upd H p (.dK [])) := (Mv.refl pot).new np
  refine q p _ m (.dic (kvs := []) (es := []) ?_ .nil .nil)
  rw [hid_ne (Mv.ne pot (Mv.refl pot) np)]
  exact upd_same
theorem at_new {a p : Addr} {H H1 : Hp} {xs : List V} (e : upd H p (.tup xs) = H1) (np : H p = none) (pot : Pot a H) : Mv a H H1 ∧ SqT K (hid a H1) p xs := by
  have m : Mv a H H1 := by rw [← e]; exact (Mv.refl pot).new np
  refine ⟨m, SqT.of ?_⟩
  rw [hid_ne (Mv.ne pot (Mv.refl pot) np), ← e]
  exact upd_same
theorem at_newL {a p : Addr} {H H1 : Hp} {xs : List V} (e : upd H p (.lst xs) = H1) (np : H p = none) (pot : Pot a H) : Mv a H H1 ∧ SqL K (hid a H1) p xs ∧ p ≠ a ∧ H1 p = some (.lst xs) := by
  have m : Mv a H H1 := by rw [← e]; exact (Mv.refl pot).new np
  have ne := Mv.ne pot (Mv.refl pot) np
  have h1 : H1 p = some (.lst xs) := by rw [← e]; exact upd_same
  refine ⟨m, SqL.of ?_, ne, h1⟩
  rw [hid_ne ne]
  exact h1
theorem catLM {a p r : Addr} {H : Hp} {Q : VK} {xs ys : List V} (pot : Pot a H) (ha : H p = some (.lst xs)) (hb : H r = some (.lst ys)) (few : xs.length + ys.length ≤ 1000) (q : ∀ p H1, Mv a H H1 → H p = none → p ≠ a → H1 p = some (.lst (xs ++ ys)) → Q (.ref p) H1) : Z.rAdd K (.ref p) (.ref r) H Q :=
  cat_lst ha hb few fun p np => q p _ ((Mv.refl pot).new np) np (Mv.ne pot (Mv.refl pot) np) upd_same
/-- a slice of a tuple beside the pot -/
theorem cutM {a p : Addr} {H : Hp} {Q : VK} {xs : List V} {lo hi : Option Int} (pot : Pot a H) (h : SqT K (hid a H) p xs) (q : ∀ r H1, Mv a H H1 → SqT K (hid a H1) r (cutV xs lo hi) → Q (.ref r) H1) : Z.rCut K (.ref p) lo hi H Q := by
  refine .inr ⟨p, xs, rfl, sqt_unhid h, ?_, ?_⟩
  · rintro ⟨e1, e2⟩
    refine q p H (Mv.refl pot) ?_
    have e : cutV xs lo hi = xs := by
      unfold cutV
      rw [e1, e2, Nat.sub_zero, List.drop_zero, List.take_length]
    rw [e]
    exact h
  · intro _ r nr
    have m : Mv a H _ := (Mv.refl pot).new (o := .tup (cutV xs lo hi)) nr
    refine q r _ m (SqT.of ?_)
    rw [hid_ne (Mv.ne pot (Mv.refl pot) nr)]
    exact upd_same
/-- a tuple behind a tuple, beside the pot -/
theorem catM {a b c : Addr} {H : Hp} {Q : VK} {xs ys : List V} (pot : Pot a H) (hb : SqT K (hid a H) b xs) (hc : SqT K (hid a H) c ys) (few : xs.length + ys.length ≤ 1000) (q : ∀ r H1, Mv a H H1 → SqT K (hid a H1) r (xs ++ ys) → Q (.ref r) H1) : Z.rAdd K (.ref b) (.ref c) H Q := by
  refine .inr ⟨b, c, xs, ys, rfl, rfl, sqt_unhid hb, sqt_unhid hc, by rw [sizeLine_eq]; omega, ?_, ?_, ?_⟩
  · rintro rfl
    exact q c H (Mv.refl pot) hc
  · rintro _ rfl
    refine q b H (Mv.refl pot) ?_
    rw [List.append_nil]
    exact hb
  · intro _ _ r nr
    have m : Mv a H _ := (Mv.refl pot).new (o := .tup (xs ++ ys)) nr
    refine q r _ m (SqT.of ?_)
    rw [hid_ne (Mv.ne pot (Mv.refl pot) nr)]
    exact upd_same
/-- list(t) -/
theorem listM {a p : Addr} {H : Hp} {Q : VK} {xs : List V} (pot : Pot a H) (h : SqT K (hid a H) p xs) (q : ∀ l H1, Mv a H H1 → l ≠ a → SqL K (hid a H1) l xs → Q (.ref l) H1) : Z.rListZ K [.ref p] H Q := by
  refine ⟨xs, .inr (sqt_unhid h), fun l nl => ?_⟩
  have m : Mv a H _ := (Mv.refl pot).new (o := .lst xs) nl
  have ne := Mv.ne pot (Mv.refl pot) nl
  refine q l _ m ne (SqL.of ?_)
  rw [hid_ne ne]
  exact upd_same
/-- an expression with a test, whichever way -/
theorem eitherC {t : TT} {ta tb : TE} {σ : L2.St} {H : Hp} {Q : VK} {M : Hp → Prop} {C : Bool → Prop} {R : V → Hp → Prop} (q : ∀ S : Bool → Hp → Prop, (∀ b H1, M H1 → C b → S b H1) → t σ H S) (yes : ∀ (Q2 : VK), (∀ v H2, R v H2 → Q2 v H2) → ∀ H1, M H1 → C true → ta σ H1 Q2) (no : ∀ (Q2 : VK), (∀ v H2, R v H2 → Q2 v H2) → ∀ H1, M H1 → C false → tb σ H1 Q2) (post : ∀ v H2, R v H2 → Q v H2) : tIf t ta tb σ H Q := by
  refine q _ fun b H1 m c => ?_
  cases b with
  | true => exact iteT (yes Q post H1 m c)
  | false => exact iteF (no Q post H1 m c)
theorem if_anyC {t : TT} {ts tu : TS} {D : Ends} {σ : L2.St} {H : Hp} {M : Hp → Prop} {C : Bool → Prop} (q : ∀ R : Bool → Hp → Prop, (∀ b H1, M H1 → C b → R b H1) → t σ H R) (yes : ∀ H1, M H1 → C true → ts D σ H1) (no : ∀ H1, M H1 → C false → tu D σ H1) : tIfS t ts tu D σ H := by
  refine q _ fun b H1 m c => ?_
  cases b with
  | true => exact iteT (yes H1 m c)
  | false => exact iteF (no H1 m c)
/-! ### rows of words -/
/-- right words for these streams -/
structure RowOk (pk : List (Str × Str)) (ws : List Str) : Prop where
  len : ws.length = pk.length
  sg : ∀ (i : Nat) (p : Str × Str) (z : Str), pk[i]? = some p → ws[i]? = some z → ∀ c ∈ z.cps.toList, c ∈ p.2.cps.toList
  few : ∀ z ∈ ws, z.length ≤ 400
theorem zipW_all : ∀ {pk : List (Str × Str)} {ds : List PyData}, (∀ (i : Nat) (p : Str × Str) (d : PyData), pk[i]? = some p → ds[i]? = some d → wordD p.2 d = true) → (zipW pk ds).all id = true
  | [], _, _ => by simp [zipW]
  | _ :: _, [], _ => by simp [zipW]
  | p :: pk, d :: ds, h => by
    show (wordD p.2 d && (zipW pk ds).all id) = true
    rw [h 0 p d rfl rfl, zipW_all fun i q e h1 h2 => h (i + 1) q e h1 h2]
    rfl
theorem RowOk.yes {pk : List (Str × Str)} {ws : List Str} (h : RowOk pk ws) : wordsD pk (.tuple (ws.map .str)) = true := by
  show (decide ((ws.map PyData.str).length = pk.length) && (zipW pk (ws.map .str)).all id) = true
  rw [List.length_map, decide_eq_true h.len, Bool.true_and]
  refine zipW_all fun i p d h1 h2 => ?_
  rw [List.getElem?_map] at h2
  cases e : ws[i]? with
  | none =>
    rw [e] at h2
    cases h2
  | some z =>
    rw [e] at h2
    have ed : d = .str z := (Option.some.inj h2).symm
    rw [ed]
    show z.cps.toList.all _ = true
    rw [List.all_eq_true]
    exact fun c hc => decide_eq_true (h.sg i p z h1 e c hc)
theorem RowOk.w1 {pk : List (Str × Str)} {ws : List Str} (h : RowOk pk ws) : Words1 (.tuple (ws.map .str)) := words_of fun z hz => Nat.le_trans (h.few z hz) (by decide)
/-- a row that is not right -/
def Bad (K : PySem.W.Frag) (a : Addr) (pk : List (Str × Str)) (H : Hp) (v : V) : Prop := ∃ d, Dz K (hid a H) v d ∧ wordsD pk d = false ∧ Words1 d
theorem Bad.mv {a : Addr} {pk : List (Str × Str)} {H H1 : Hp} {v : V} (h : Bad K a pk H v) (m : Mv a H H1) : Bad K a pk H1 v :=
  let ⟨d, x, y, z⟩ := h
  ⟨d, x.mv m, y, z⟩
theorem words_flat {d : PyData} (h : ∀ ds, d ≠ .tuple ds) : Words1 d := fun ds _ e _ => absurd e (h ds)
theorem Bad.flat {a : Addr} {pk : List (Str × Str)} {H : Hp} {v : V} {d : PyData} (dz : Dz K (hid a H) v d) (h : ∀ ds, d ≠ .tuple ds) : Bad K a pk H v := ⟨d, dz, wordsD_no h, words_flat h⟩
theorem wordsD_len {pk : List (Str × Str)} {ds : List PyData} (h : ds.length ≠ pk.length) : wordsD pk (.tuple ds) = false := by
  show (decide (ds.length = pk.length) && _) = false
  rw [decide_eq_false h]
  rfl
theorem zipW_one : ∀ {pk : List (Str × Str)} {ds : List PyData} {i : Nat} {p : Str × Str} {d : PyData}, pk[i]? = some p → ds[i]? = some d → wordD p.2 d = false → (zipW pk ds).all id = false
  | q :: pk, e :: ds, 0, p, d, h1, h2, h => by
    have e1 := Option.some.inj h1
    have e2 := Option.some.inj h2
    subst e1 e2
    show (wordD _ _ && _) = false
    rw [h]
    rfl
  | q :: pk, e :: ds, i + 1, p, d, h1, h2, h => by
    show (_ && (zipW pk ds).all id) = false
    rw [zipW_one (i := i) (p := p) (d := d) h1 h2 h, Bool.and_false]
  | [], _, i, p, d, h1, _, _ => by simp at h1
  | _ :: _, [], i, p, d, _, h2, _ => by simp at h2
theorem wordsD_at {pk : List (Str × Str)} {ds : List PyData} {i : Nat} {p : Str × Str} {d : PyData} (h1 : pk[i]? = some p) (h2 : ds[i]? = some d) (h : wordD p.2 d = false) : wordsD pk (.tuple ds) = false := by
  show (_ && (zipW pk ds).all id) = false
  rw [zipW_one h1 h2 h, Bool.and_false]
/-- a tuple of data whose texts are short -/
theorem Bad.tup {a r : Addr} {pk : List (Str × Str)} {H : Hp} {xs : List V} {ds : List PyData} (h : SqT K (hid a H) r xs) (dz : DzAll K (hid a H) xs ds) (no : wordsD pk (.tuple ds) = false) (small : ∀ z, PyData.str z ∈ ds → z.length ≤ 900000) : Bad K a pk H (.ref r) :=
  ⟨.tuple ds, .tup h dz, no, fun es z e hz => by
    cases e
    exact small z hz⟩
theorem wordD_chr {g z : Str} {c : Nat} (h : c ∈ z.cps.toList) (n : c ∉ g.cps.toList) : wordD g (.str z) = false := by
  show z.cps.toList.all _ = false
  rw [← Bool.not_eq_true, List.all_eq_true]
  intro all
  exact n (of_decide_eq_true (all c h))
def Bads (K : PySem.W.Frag) (a : Addr) (pk : List (Str × Str)) (H : Hp) (vs : List V) : Prop := ∀ v ∈ vs, Bad K a pk H v
theorem Bads.nil {a : Addr} {pk : List (Str × Str)} {H : Hp} : Bads K a pk H [] := fun v hv => nomatch hv
theorem Bads.mv {a : Addr} {pk : List (Str × Str)} {H H1 : Hp} {vs : List V} (h : Bads K a pk H vs) (m : Mv a H H1) : Bads K a pk H1 vs := fun v hv => (h v hv).mv m
theorem Bads.snoc {a : Addr} {pk : List (Str × Str)} {H H1 : Hp} {vs : List V} {v : V} (h : Bads K a pk H vs) (m : Mv a H H1) (b : Bad K a pk H1 v) : Bads K a pk H1 (vs ++ [v]) := fun u hu => (List.mem_append.mp hu).elim (fun x => (h u x).mv m) fun x => by rw [List.mem_singleton.mp x]; exact b
theorem Bads.app {a : Addr} {pk : List (Str × Str)} {H : Hp} {vs us : List V} (h : Bads K a pk H vs) (g : Bads K a pk H us) : Bads K a pk H (vs ++ us) := fun u hu => (List.mem_append.mp hu).elim (h u) (g u)
/-! ### words against nothing -/
theorem dp_strs {H : Hp} : ∀ zs : List Str, DpAll K H (zs.map V.str) (zs.map PyData.str)
  | [] => .nil
  | z :: zs => .cons (.str z) (dp_strs zs)
theorem shaped_strs {zs : List Str} (h : ∀ z ∈ zs, ∀ c ∈ z.cps.toList, c < 256) : SeqAt.shaped (.tuple (zs.map .str)) = true := by
  have lay : ∀ zs : List Str, (∀ z ∈ zs, ∀ c ∈ z.cps.toList, c < 256) → PyData.canLayAll0 (zs.map .str) = true ∧ PyData.depthAll (zs.map .str) ≤ 0 := by
    intro zs
    induction zs with
    | nil =>
      intro _
      refine ⟨by simp only [List.map_nil, PyData.canLayAll0], ?_⟩
      simp only [List.map_nil, PyData.depthAll]
      exact Nat.zero_le _
    | cons z zs ih =>
      intro h
      obtain ⟨i1, i2⟩ := ih fun y hy => h y (List.mem_cons_of_mem _ hy)
      have cz : PyData.canLay0 (.str z) = true := by
        simp only [PyData.canLay0, PyData.strOk]
        rw [← Array.all_toList, List.all_eq_true]
        intro c hc
        have := h z List.mem_cons_self c hc
        refine decide_eq_true ?_
        omega
      constructor
      · simp only [List.map_cons, PyData.canLayAll0, Bool.and_eq_true]
        exact ⟨cz, i1⟩
      · simp only [List.map_cons, PyData.depthAll, PyData.depth]
        exact Nat.max_le.mpr ⟨Nat.le_refl _, i2⟩
  obtain ⟨x, y⟩ := lay zs h
  unfold SeqAt.shaped
  rw [Bool.and_eq_true]
  refine ⟨by simp only [PyData.canLay0]; exact x, decide_eq_true ?_⟩
  simp only [PyData.depth]
  omega
/-- row != () -/
theorem ne_none {H : Hp} {Q : VK} {p q : Addr} {zs : List Str} (h : SqT K H p (zs.map V.str)) (g : SqT K H q []) (small : ∀ z ∈ zs, ∀ c ∈ z.cps.toList, c < 256) (k : Q (.bl (!decide (zs = []))) H) : Z.rNe K (.ref p) (.ref q) H Q := by
  refine .inr ⟨_, _, .tup h (dp_strs zs), .tup g .nil, shaped_strs small, shaped_strs (zs := []) (fun z hz => nomatch hz), ?_⟩
  have e : PyData.eqv (.tuple (zs.map .str)) (.tuple []) = decide (zs = []) := by
    cases zs with
    | nil => simp only [List.map_nil, PyData.eqv, PyData.eqvAll]; rfl
    | cons z zs => simp only [List.map_cons, PyData.eqv, PyData.eqvAll]; rfl
  rw [e]
  exact k
/-! ### the signs of all streams of a kind -/
theorem joinL_mem {c : Nat} : ∀ {l : List (List Nat)} {y : List Nat}, y ∈ l → c ∈ y → c ∈ TL.joinL [] l
  | [y], z, hz, hc => by
    rw [List.mem_singleton.mp hz] at hc
    exact hc
  | x :: y :: r, z, hz, hc => by
    show c ∈ x ++ ([] ++ TL.joinL [] (y :: r))
    rw [List.nil_append]
    rcases List.mem_cons.mp hz with e | hz
    · rw [e] at hc
      exact List.mem_append_left _ hc
    · exact List.mem_append_right _ (joinL_mem hz hc)
  | [], _, hz, _ => nomatch hz
theorem join_mem {ys : List Str} {y : Str} {c : Nat} (hy : y ∈ ys) (hc : c ∈ y.cps.toList) : c ∈ (Txt.join (Str.ofString "") ys).cps.toList := by
  have e : (Str.ofString "").cps.toList = [] := by decide +kernel
  have t := TL.tl_join (Str.ofString "") ys
  rw [← TL.join_eq] at t
  have t2 : (Txt.join (Str.ofString "") ys).cps.toList = TL.joinL (Str.ofString "").cps.toList (ys.map fun y => y.cps.toList) := t
  rw [t2, e]
  exact joinL_mem (List.mem_map.mpr ⟨y, hy, rfl⟩) hc
/-- [pair[1] for pair in pairs] -/
theorem comp_snd {σ : L2.St} {vs : List Nat} {i : Nat} {p : Addr} {xs : List V} {ps : List (Str × Str)} {H : Hp} {Q : VK} (hx : SqT K H p xs) (hd : DzAll K H xs (ps.map prD)) (few : ps.length ≤ 1000)
    (hw : ∀ x, wipe ((wipe σ vs).set i (some x)) vs = wipe σ vs) (hi : ∀ x, ((wipe σ vs).set i (some x))[i]? = some (some x))
    (done : ∀ L H2, H L = none → Same H H2 → H2 L = some (.lst (oneOf (ps.map (·.2)))) → Q (.ref L) H2) :
    CompOk (Itt K p) (gName i) tYes (tOp (Z.rItem K) (tVar i) (tC (.int 1))) vs σ H Q := by
  have many : xs.length = ps.length := by
    rw [hd.len, List.length_map]
  refine comp (walkT (xs := xs)) (Same H) (fun n acc H2 => acc = oneOf ((ps.take n).map (·.2))) (Same.refl H) (fun L o H2 e m => same_upd m e) (fun _ _ _ _ _ _ _ h => h) rfl (fun n acc H2 m _ => same_sqt m hx) ?_ ?_
  · rintro L n acc x H2 fresh hn hxi len m at_ rfl
    have ln : n < ps.length := by omega
    obtain ⟨d, hdi, dz⟩ := hd.get hxi
    rw [List.getElem?_map, List.getElem?_eq_getElem ln] at hdi
    have ed : d = prD ps[n] := (Option.some.inj hdi).symm
    rw [ed] at dz
    obtain ⟨a, zs, rfl, ha, hz⟩ := dz.tuple
    cases hz with
    | cons q1 q =>
      cases q with
      | cons q2 q =>
        cases q
        cases q1
        cases q2
        refine turn1 (hw _) (s_op (s_var (hi _) (s_c (itemT (same_sqt m ha) (v := .str ps[n].2) (by rfl) ?_))))
        refine put fresh (fun L o H2 e m => same_upd m e) (fun _ _ _ _ _ _ _ h => h) at_ (by omega) len m ?_
        rw [List.take_add_one, List.getElem?_eq_getElem ln, List.map_append]
        unfold oneOf
        rw [List.map_append]
        rfl
  · rintro L acc H2 fresh len m at_ rfl
    rw [many, List.take_length] at at_
    exact done L H2 fresh m at_
/-- [len(word) for word in words] -/
theorem comp_lens {σ : L2.St} {vs : List Nat} {i : Nat} {p : Addr} {zs : List Str} {H : Hp} {Q : VK} (hx : SqT K H p (oneOf zs)) (few : zs.length ≤ 1000) (small : ∀ z ∈ zs, z.length ≤ 1000)
    (hw : ∀ x, wipe ((wipe σ vs).set i (some x)) vs = wipe σ vs) (hi : ∀ x, ((wipe σ vs).set i (some x))[i]? = some (some x))
    (done : ∀ L H2, H L = none → Same H H2 → H2 L = some (.lst ((zs.map fun z => ((z.length : Nat) : Int)).map V.int)) → Q (.ref L) H2) :
    CompOk (Itt K p) (gName i) tYes (tCB (Z.rLen K) (tCons (tVar i) tNil)) vs σ H Q := by
  refine comp (walkT (xs := oneOf zs)) (Same H) (fun n acc H2 => acc = ((zs.take n).map fun z => ((z.length : Nat) : Int)).map V.int) (Same.refl H) (fun L o H2 e m => same_upd m e) (fun _ _ _ _ _ _ _ h => h) rfl (fun n acc H2 m _ => same_sqt m hx) ?_ ?_
  · rintro L n acc x H2 fresh hn hxi len m at_ rfl
    have ln : n < zs.length := by
      rw [List.length_map] at hn
      exact hn
    have ex : x = .str zs[n] := by
      rw [List.getElem?_map, List.getElem?_eq_getElem ln] at hxi
      exact (Option.some.inj hxi).symm
    rw [ex]
    refine turn1 (hw _) (s_cb (s_cons (s_var (hi _) (s_nil ⟨?_, ?_⟩))))
    · have := small zs[n] (List.getElem_mem ln)
      rw [sizeLine_eq]
      omega
    refine put fresh (fun L o H2 e m => same_upd m e) (fun _ _ _ _ _ _ _ h => h) at_ (by omega) len m ?_
    rw [List.take_add_one, List.getElem?_eq_getElem ln, List.map_append, List.map_append]
    rfl
  · rintro L acc H2 fresh len m at_ rfl
    have full : zs.take (oneOf zs).length = zs := by
      rw [List.length_map]
      exact List.take_length
    rw [full] at at_
    exact done L H2 fresh m at_
theorem sum_cast : ∀ zs : List Str, (zs.map fun z => ((z.length : Nat) : Int)).sum = (((zs.map (·.length)).sum : Nat) : Int)
  | [] => rfl
  | z :: zs => by
    rw [List.map_cons, List.sum_cons, List.map_cons, List.sum_cons, sum_cast zs]
    omega
/-- the 26 letters -/
abbrev abc : Str := "abcdefghijklmnopqrstuvwxyz"
/-- [sign for sign in letters if sign not in signs] -/
theorem comp_odd {σ : L2.St} {vs : List Nat} {i j : Nat} {g : Str} {H : Hp} {Q : VK} (few : g.length ≤ 12)
    (hw : ∀ x, wipe ((wipe σ vs).set i (some x)) vs = wipe σ vs) (hi : ∀ x, ((wipe σ vs).set i (some x))[i]? = some (some x)) (hj : ∀ x, ((wipe σ vs).set i (some x))[j]? = some (some (.str g)))
    (done : ∀ L H2 c r, H L = none → Same H H2 → c ∉ g.cps.toList → letB c = true → H2 L = some (.lst (V.str ⟨#[c]⟩ :: r)) → Q (.ref L) H2) :
    CompOk (Its abc) (gName i) (tTest (tOp rNotInS (tVar i) (tVar j))) (tVar i) vs σ H Q := by
  refine comp walkS (Same H) (fun n acc H2 => acc = ((abc.cps.toList.take n).filter fun c => decide (c ∉ g.cps.toList)).map fun c => V.str ⟨#[c]⟩) (Same.refl H) (fun L o H2 e m => same_upd m e) (fun _ _ _ _ _ _ _ h => h) rfl (fun n acc H2 m _ => trivial) ?_ ?_
  · rintro L n acc x H2 fresh hn ⟨c, hc, rfl⟩ len m at_ rfl
    have tk : abc.cps.toList.take (n + 1) = abc.cps.toList.take n ++ [c] := take_sign hc
    have n26 : n < 1000000 := Nat.lt_of_lt_of_le hn (by decide +kernel)
    refine turnIf (hw _) (s_test (s_op (s_var (hi _) (s_var (hj _) ⟨c, g, rfl, rfl, ?_⟩))))
    refine s_bl (P := _) ?_
    by_cases h : c ∈ g.cps.toList
    · rw [decide_eq_true h]
      refine iteF (skip at_ len m ?_)
      rw [tk, List.filter_append, show [c].filter (fun c => decide (c ∉ g.cps.toList)) = [] from List.filter_cons_of_neg (by rw [decide_eq_false fun n => n h]; exact Bool.false_ne_true), List.append_nil]
    · rw [decide_eq_false h]
      refine iteT (s_var (hi _) ?_)
      refine put fresh (fun L o H2 e m => same_upd m e) (fun _ _ _ _ _ _ _ h => h) at_ n26 len m ?_
      rw [tk, List.filter_append, show [c].filter (fun c => decide (c ∉ g.cps.toList)) = [c] from List.filter_cons_of_pos (decide_eq_true h), List.map_append]
      rfl
  · rintro L acc H2 fresh len m at_ e
    have full : abc.cps.toList.take abc.cps.size = abc.cps.toList := full_signs abc
    rw [full] at e
    cases hf : abc.cps.toList.filter (fun c => decide (c ∉ g.cps.toList)) with
    | nil =>
      exfalso
      have all : ∀ c ∈ abc.cps.toList, c ∈ g.cps.toList := by
        intro c hc
        refine Classical.byContradiction fun n => ?_
        have : c ∈ abc.cps.toList.filter (fun c => decide (c ∉ g.cps.toList)) := List.mem_filter.mpr ⟨hc, decide_eq_true n⟩
        rw [hf] at this
        cases this
      have l1 := few_of (show abc.cps.toList.Nodup by decide +kernel) all
      have l2 : abc.cps.toList.length = 26 := by decide +kernel
      have l3 : g.cps.toList.length = g.length := Array.length_toList
      omega
    | cons c r =>
      rw [hf] at e
      rw [e] at at_
      have hz : c ∈ abc.cps.toList.filter (fun c => decide (c ∉ g.cps.toList)) := by
        rw [hf]
        exact List.mem_cons_self
      obtain ⟨h1, h2⟩ := List.mem_filter.mp hz
      refine done L H2 c _ fresh m (of_decide_eq_true h2) ?_ at_
      exact List.all_eq_true.mp (show abc.cps.toList.all letB = true by decide +kernel) c h1
end
end Z
local macro_rules | `(tactic| walk_at "st") => `(tactic| repeat (first
  | ((with_reducible refine' Z.s_var ?h ?_); (case h => exact rfl))
  | with_reducible refine Z.s_c ?_
  | with_reducible refine Z.s_op ?_
  | with_reducible refine Z.s_un ?_
  | with_reducible refine Z.s_nil ?_
  | with_reducible refine Z.s_cons ?_
  | with_reducible refine Z.s_cb ?_
  | with_reducible refine Z.s_call ?_
  | with_reducible refine Z.s_tup ?_
  | with_reducible refine Z.s_lst ?_
  | with_reducible refine Z.s_test ?_
  | with_reducible refine Z.s_B ?_
  | with_reducible refine Z.s_and ?_
  | with_reducible refine Z.s_or ?_
  | with_reducible refine Z.s_not ?_
  | with_reducible refine Z.s_andV ?_
  | with_reducible refine Z.s_orV ?_
  | with_reducible refine Z.s_notV ?_
  | with_reducible refine Z.s_if ?_
  | with_reducible refine Z.s_chain ?_
  | with_reducible refine Z.s_seq ?_
  | with_reducible refine Z.s_next ?_
  | with_reducible refine Z.s_drop ?_
  | with_reducible refine Z.s_ret ?_
  | with_reducible refine Z.s_ifS ?_
  | with_reducible refine Z.s_asg ?_
  | with_reducible refine Z.s_name ?_
  | with_reducible refine Z.s_par ?_
  | with_reducible refine Z.s_item ?_
  | with_reducible refine Z.s_part ?_
  | with_reducible refine Z.s_noPart ?_
  | with_reducible refine Z.s_cut ?_
  | with_reducible refine Z.s_bm0 ?_
  | with_reducible refine Z.s_bm ?_
  | with_reducible refine Z.s_bl (P := _) ?_
  | with_reducible refine Z.s_two (P := _) ?_
  | with_reducible refine Z.s_int (P := _) ?_
  | with_reducible refine Z.a_addI ?_
  | with_reducible refine Z.a_subI ?_
  | with_reducible refine Z.a_ltI ?_
  | with_reducible refine Z.a_leI ?_
  | with_reducible refine Z.a_gtI ?_
  | with_reducible refine Z.a_geI ?_
  | with_reducible refine Z.a_eqI ?_
  | with_reducible refine Z.a_neI ?_
  | with_reducible refine Z.a_eqS ?_
  | with_reducible refine Z.a_neS ?_
  | with_reducible refine Z.a_eqB ?_
  | with_reducible refine Z.a_neB ?_
  | with_reducible refine Z.a_isN ?_
  | with_reducible refine Z.a_notN ?_
  | with_reducible refine Z.a_setL ?_
  | with_reducible refine Z.a_int ?_
  | with_reducible refine Z.a_intB ?_
  | with_reducible refine Z.a_abs ?_
  | with_reducible refine Z.a_max ?_
  | with_reducible refine Z.a_min ?_
  | with_reducible refine Z.s_lc ?_
  | with_reducible refine Z.s_for ?_
  | with_reducible refine Z.s_iList ?_
  | with_reducible refine Z.s_iTup ?_
  | with_reducible refine Z.s_iStr ?_
  | with_reducible refine Z.s_rng1 ?_
  | with_reducible refine Z.s_rng2 ?_
  | with_reducible refine Z.s_gtup ?_
  | with_reducible refine Z.s_gcons ?_
  | with_reducible refine Z.s_gnil ?_
  | with_reducible refine Z.s_yes ?_
  | with_reducible refine Z.s_ref (P := _) ?_
  | with_reducible refine Z.s_str (P := _) ?_
  | with_reducible refine Z.s_one (P := _) ?_
  | with_reducible refine Z.s_m1 ?_
  | with_reducible refine Z.s_m0 ?_
  | with_reducible refine Z.s_isStr ?_))
namespace Z
open PySem PySem.Spec PyProof.Rows L2 G
section
variable {P : Program} {w : World} {K : PySem.W.Frag} {mg : Str → Option Value} {base : Heap}
/-- the scope of the list that the i-th row of a def makes -/
def firstScope (st : Stmt) (i : Nat) : Scope := match (defBody st)[i]? with
  | some (.Assign _ (.ListComp _ _ sc _) _) => sc
  | _ => defScope st
theorem lookup_re {env : Env} {k0 : NameKind} {x : Str} : ∀ {names : List (Str × NameKind)}, names.lookup x = some k0 → (k0 = .cell ∨ k0 = .free) →
    ((names.map fun (n, k) => if (k == NameKind.free && env.scope.kind == .function && env.kindOf n == some .cell) then (n, NameKind.cell) else (n, k)).lookup x = some .cell ∨
      (names.map fun (n, k) => if (k == NameKind.free && env.scope.kind == .function && env.kindOf n == some .cell) then (n, NameKind.cell) else (n, k)).lookup x = some .free)
  | [], h, _ => by simp at h
  | (n, k) :: r, h, hk => by
    rw [List.map_cons]
    by_cases c : (x == n) = true
    · have e : some k = some k0 := by
        have h2 := h
        simp only [List.lookup, c] at h2
        exact h2
      have e2 := Option.some.inj e
      subst e2
      dsimp only
      split
      · left
        simp only [List.lookup, c]
      · rcases hk with rfl | rfl
        · left
          simp only [List.lookup, c]
        · right
          simp only [List.lookup, c]
    · have c2 : (x == n) = false := by simpa using c
      have h2 : r.lookup x = some k0 := by
        have h2 := h
        simp only [List.lookup, c2] at h2
        exact h2
      have ih := lookup_re (env := env) h2 hk
      dsimp only
      split <;> simp only [List.lookup, c2] <;> exact ih
theorem blkOk_re {N : List Str} {scope scope2 : Scope} {env : Env} {own : List (Str × Nat)} (h : BlkOk N scope scope2 own) : BlkOk N (relabel scope env) scope2 own :=
  ⟨h.kind, h.uniq, h.ix, fun y hy e => (h.free y hy e).elim (fun z => lookup_re z (.inl rfl)) fun z => lookup_re z (.inr rfl), h.own⟩
theorem k_pitup {X : Cx} {tg e : Expr} {te : TE} (he : PE X e te) (h : X.K = K := by rfl) : PI X tg e (iTup K te) := by
  subst h
  exact pi_tup he
theorem k_pilist {X : Cx} {tg e : Expr} {te : TE} (he : PE X e te) (h : X.K = K := by rfl) : PI X tg e (iList K te) := by
  subst h
  exact pi_list he
theorem k_sum {X : Cx} (hc : X.calm = true) (h : X.K = K := by rfl) : CallR X (.builtin "sum") (rSum K) := by
  subst h
  exact cr_sum hc
theorem hid2_upd {L a : Addr} {H : Hp} {o : HO} : Z.hid L (Z.hid a (upd H L o)) = Z.hid L (Z.hid a H) := by rw [hid_comm, hid_upd, ← hid_comm]
theorem sqt_upd {a g p : Addr} {H : Hp} {xs ys : List V} {o : HO} (h : SqT K (hid a H) p xs) (hg : H g = some (.lst ys)) : SqT K (hid a (upd H g o)) p xs := by
  rcases h with (h | ⟨ob, h⟩) | h
  · obtain ⟨na, h1⟩ := hid_some h
    have ne : p ≠ g := fun e => by
      rw [e, hg] at h1
      cases h1
    refine .inl (.inl ?_)
    rw [hid_ne na, upd_ne ne]
    exact h1
  · obtain ⟨na, h1⟩ := hid_some h
    have ne : p ≠ g := fun e => by
      rw [e, hg] at h1
      cases h1
    refine .inl (.inr ⟨ob, ?_⟩)
    rw [hid_ne na, upd_ne ne]
    exact h1
  · exact .inr h
theorem if_join {t : TT} {ts tu : TS} {D : Ends} {σ : L2.St} {H : Hp} (J : L2.St → Hp → Prop) (rest : ∀ σ1 H1, J σ1 H1 → D.nx σ1 H1) (q : ∀ D2 : Ends, (∀ σ1 H1, J σ1 H1 → D2.nx σ1 H1) → tIfS t ts tu D2 σ H) : tIfS t ts tu D σ H := q D rest
theorem mul_sign {c n : Nat} (h : n = 0 ∨ n = 300) : MulOk (⟨#[c]⟩ : Str) (n : Nat) ∧ (Txt.mul ⟨#[c]⟩ (n : Nat)).length ≤ 300 ∧ ∀ d ∈ (Txt.mul ⟨#[c]⟩ (n : Nat)).cps.toList, d = c := by
  have l1 : (⟨#[c]⟩ : Str).length = 1 := rfl
  rcases h with rfl | rfl
  · refine ⟨⟨by decide, fun _ _ => by omega, fun _ _ => ?_⟩, ?_, ?_⟩
    · show decide ((⟨#[c]⟩ : Str).length * _ > sizeLine) = false
      refine decide_eq_false ?_
      rw [l1, sizeLine_eq]
      decide
    · exact Nat.zero_le _
    · intro d hd
      have e : (Txt.mul (⟨#[c]⟩ : Str) ((0 : Nat) : Int)).cps.toList = [] := rfl
      rw [e] at hd
      cases hd
  · have e : Txt.mul (⟨#[c]⟩ : Str) ((300 : Nat) : Int) = ⟨(List.replicate 300 #[c]).foldl (· ++ ·) #[]⟩ := rfl
    obtain ⟨h1, h2⟩ := Sm.fold_size #[c] 300 #[]
    have z1 : (#[] : Array Nat).size + 300 * (#[c] : Array Nat).size = 300 := rfl
    refine ⟨⟨by decide, fun _ _ => by omega, fun _ _ => ?_⟩, ?_, ?_⟩
    · show decide ((⟨#[c]⟩ : Str).length * _ > sizeLine) = false
      refine decide_eq_false ?_
      rw [l1, sizeLine_eq]
      decide
    · rw [e]
      show ((List.replicate 300 #[c]).foldl (· ++ ·) #[]).size ≤ 300
      rw [h1, z1]
      exact Nat.le_refl _
    · intro d hd
      rw [e] at hd
      rcases h2 d hd with z | z
      · exact absurd z (by simp)
      · simpa using z
/-- right and wrong words are told apart -/
def spWR (K : PySem.W.Frag) (C : Addr) : Sp := fun vs H Q _ => ∃ a x r ps qs, vs = [.ref a, .ref x, .ref r] ∧ Pot a H ∧ StAt K C (hid a H) x ps qs ∧ Strm ps qs ∧ Rec K (hid a H) r ps qs ∧ ∀ H1, Mv a H H1 → Q (.bl true) H1
theorem StAt.un {C a x : Addr} {H : Hp} {ps qs : List (Str × Str)} (h : StAt K C (hid a H) x ps qs) : StAt K C H x ps qs := h.same same_hid
theorem StAt.mv {C a x : Addr} {H H1 : Hp} {ps qs : List (Str × Str)} (h : StAt K C (hid a H) x ps qs) (m : Mv a H H1) : StAt K C (hid a H1) x ps qs := h.same m.same
theorem Rec.mv {a r : Addr} {H H1 : Hp} {ps qs : List (Str × Str)} (h : Rec K (hid a H) r ps qs) (m : Mv a H H1) : Rec K (hid a H1) r ps qs := h.same m.same
theorem Rec.un {a r : Addr} {H : Hp} {ps qs : List (Str × Str)} (h : Rec K (hid a H) r ps qs) : Rec K H r ps qs := h.same same_hid
theorem sum_signs : ∀ {pk : List (Str × Str)}, GoodP pk → ((pk.map (·.2)).map (·.length)).sum ≤ pk.length * 4
  | [], _ => Nat.le_refl 0
  | p :: pk, h => by
    have a := (wordB_len (signs_w4 (h p List.mem_cons_self).2)).2.1
    have b := sum_signs (pk := pk) fun q hq => h q (List.mem_cons_of_mem _ hq)
    rw [List.map_cons, List.map_cons, List.sum_cons, List.length_cons]
    omega
theorem letters_small {z : Str} (h : wordB 8 z = true) : ∀ c ∈ z.cps.toList, c < 256 := by
  intro c hc
  have := (wordB_len h).2.2 c hc
  unfold letB at this
  rw [Bool.and_eq_true, decide_eq_true_eq, decide_eq_true_eq] at this
  omega
abbrev s_law_words_right : Stmt := topS 34
theorem sc_law_words_right : FnScope ["pot", "streams", "record", "good", "far", "due", "kind", "row", "signs", "strange", "some", "odd", "told", "part", "name", "word", "pair", "sign"] ["pot", "streams", "record"] (defScope s_law_words_right) := ⟨rfl, rfl, rfl, by decide +kernel, rfl, by decide +kernel, by decide +kernel⟩
section
variable {f fdip fch fwd C fst fc1 fc2 faw fiw : Addr} {fd fddip fdch fdwd fdst fdc1 fdc2 fdaw fdiw : FuncData}
theorem ok_words_right (T : Txt2 mg) (Tsum : mg "sum" = none) (SC : StrmC K C) (D : Def K mg "_law_words_right" s_law_words_right ["pot", "streams", "record"] f fd) (D_law_dip : Def K mg "_law_dip" s_law_dip ["pot", "total"] fdip fddip) (D_law_choose : Def K mg "_law_choose" s_law_choose ["pot", "items"] fch fdch) (D_law_word : Def K mg "_law_word" s_law_word ["pot", "signs", "most"] fwd fdwd)
    (Msteps_of : MethAt K C "steps_of" "Streams.steps_of" sStreams_steps_of ["self", "content", "filling"] fst fdst) (Mis_content : MethAt K C "is_content" "Streams.is_content" sStreams_is_content ["self", "value"] fc1 fdc1) (Mis_filling : MethAt K C "is_filling" "Streams.is_filling" sStreams_is_filling ["self", "value"] fc2 fdc2)
    (D_are_words : Def K mg "_are_words" s_are_words ["kind", "value"] faw fdaw) (Dis_word : Def K mg "is_word" sis_word ["signs", "value"] fiw fdiw) : FnG P w K mg base CX0 6 f fd ["pot", "streams", "record"] (spWR K C) := by
  have G_law_choose : FnOk P w K mg base CX0 2 fch fdch ["pot", "items"] (spChoose K) := ok_choose T.toTxt D_law_choose D_law_dip
  have G_law_word : FnOk P w K mg base CX0 3 fwd fdwd ["pot", "signs", "most"] spWord := ok_word T D_law_word D_law_dip D_law_choose
  have Gis_content : FnOk P w K mg base CX0 3 fc1 fdc1 ["self", "value"] (spIsCont K C) := ok_is_content T SC Mis_content D_are_words Dis_word
  have Gis_filling : FnOk P w K mg base CX0 3 fc2 fdc2 ["self", "value"] (spIsFill K C) := ok_is_filling T SC Mis_filling D_are_words Dis_word
  have Gsteps_of : FnOk P w K mg base CX0 4 fst fdst ["self", "content", "filling"] (spSteps K C) := ok_steps T SC Msteps_of Mis_content Mis_filling D_are_words Dis_word
  refine of_calm D.F sc_law_words_right (fun vs H Q E h => ?_) (fun cdv A quiet outer s H vs Q E hr h => ?_)
  · obtain ⟨a, x, r, ps, qs, rfl, _⟩ := h
    rfl
  · obtain ⟨a, x, r, ps, qs, rfl, pot, st, sg, ⟨t1, t2, hL, dz, dy⟩, k⟩ := h
    have hu := hr.units
    have hq : Quiet (A.deeper (envOfC "_law_words_right" (defScope s_law_words_right) s.heap.objs.size f cdv)) := quiet
    obtain ⟨_, xs1, e1, a1, d1⟩ := dz.tuple
    cases e1
    obtain ⟨_, xs2, e2, a2, d2⟩ := dy.tuple
    cases e2
    have n1 := d1.len
    have n2 := d2.len
    rw [List.length_map] at n1 n2
    have lp := sg.few
    have lq := sg.few2
    refine ⟨_, (pss_cons (ps_setLc (i := 3) (own := [("part", 13)]) (by rfl) sc_law_words_right.nd rfl rfl (sw_true rfl rfl rfl (by decide +kernel)) (pi_list (pv 2)) (blkOk_by (own := [("part", 13)]) (N := ["pot", "streams", "record", "good", "far", "due", "kind", "row", "signs", "strange", "some", "odd", "told", "part", "name", "word", "pair", "sign"]) (sc := defScope s_law_words_right) (by decide +kernel))
   (fun _ _ _ _ _ => (pg_name (i := 13) sc_law_words_right.nd rfl (by first | exact Or.inl rfl | exact Or.inr rfl))) (fun _ _ _ _ _ => pts_nil) (fun _ _ _ _ _ => (pe_callTy (Z.k_tuple (K := K)) (by rfl) T.tuple (by decide +kernel) (pa_cons (pe_lc (own := [("name", 14), ("signs", 8)]) (by rfl) sc_law_words_right.nd (Z.k_pitup (K := K) (pv 13)) (blkOk_re (blkOk_by (own := [("name", 14), ("signs", 8)]) (N := ["pot", "streams", "record", "good", "far", "due", "kind", "row", "signs", "strange", "some", "odd", "told", "part", "name", "word", "pair", "sign"]) (sc := firstScope s_law_words_right 0) (by decide +kernel)))
   (fun _ _ _ _ _ => (Z.k_tup (K := K) (n := 2) rfl (pgs_cons (pg_name (i := 14) sc_law_words_right.nd rfl (by first | exact Or.inl rfl | exact Or.inr rfl)) (pgs_cons (pg_name (i := 8) sc_law_words_right.nd rfl (by first | exact Or.inl rfl | exact Or.inr rfl)) pgs_nil)))) (fun _ _ _ _ _ => pts_nil) (fun _ _ _ _ _ => (pe_call G_law_word (hr.mono (by decide)) (by rfl) D_law_word.g D_law_word.F.kp D_law_word.b .nil pass0 (pa_cons (pv 0) (pa_cons (pv 8) (pa_cons pe_int pa_nil)))))) pa_nil))))
 (pss_cons (ps_set (i := 4) sc_law_words_right.nd rfl (by first | exact Or.inl rfl | exact Or.inr rfl) (pe_call G_law_choose (hr.mono (by decide)) (by rfl) D_law_choose.g D_law_choose.F.kp D_law_choose.b .nil pass0 (pa_cons (pv 0) (pa_cons (pe_lst (pa_cons pe_int (pa_cons pe_int (pa_cons pe_int pa_nil)))) pa_nil))))
 (pss_cons (ps_asg (pe_op (Z.k_add (K := K)) (pe_tup (pa_cons (pe_op (Z.k_add (K := K)) (pe_ix (Z.k_item (K := K)) (pe_ix (Z.k_item (K := K)) (pv 3) pe_int (fun _ _ => rfl)) pe_int (fun _ _ => rfl)) (pe_op Z.op_mul (pe_ix (Z.k_item (K := K)) (pe_ix (Z.k_item (K := K)) (pe_ix (Z.k_item (K := K)) (pe_ix (Z.k_item (K := K)) (pv 2) pe_int (fun _ _ => rfl)) pe_int (fun _ _ => rfl)) pe_int (fun _ _ => rfl)) pe_int (fun _ _ => rfl)) (pv 4))) pa_nil)) (pe_slice (Z.k_cut (K := K)) (pe_ix (Z.k_item (K := K)) (pv 3) pe_int (fun _ _ => rfl)) (po_some pe_int) po_none)) (pg_sub (pv 3) pe_int set_list))
 (pss_cons (ps_set (i := 5) sc_law_words_right.nd rfl (by first | exact Or.inl rfl | exact Or.inr rfl) (pe_op (Z.k_add (K := K)) (pe_op (Z.k_add (K := K)) (pe_callB (Z.k_len (K := K)) (by rfl) T.len (by decide +kernel) (pa_cons (pe_ix (Z.k_item (K := K)) (pv 2) pe_int (fun _ _ => rfl)) pa_nil)) (pe_callB (Z.k_sum (K := K) rfl) (by rfl) Tsum (by decide +kernel) (pa_cons (pe_lc (own := [("word", 15)]) (by rfl) sc_law_words_right.nd (pi_tup (pe_ix (Z.k_item (K := K)) (pv 3) pe_int (fun _ _ => rfl))) (blkOk_by (own := [("word", 15)]) (N := ["pot", "streams", "record", "good", "far", "due", "kind", "row", "signs", "strange", "some", "odd", "told", "part", "name", "word", "pair", "sign"]) (sc := defScope s_law_words_right) (by decide +kernel))
   (fun _ _ _ _ _ => (pg_name (i := 15) sc_law_words_right.nd rfl (by first | exact Or.inl rfl | exact Or.inr rfl))) (fun _ _ _ _ _ => pts_nil) (fun _ _ _ _ _ => (pe_callB (Z.k_len (K := K)) (by rfl) T.len (by decide +kernel) (pa_cons (pv 15) pa_nil)))) pa_nil))) (pe_callB (Z.k_sum (K := K) rfl) (by rfl) Tsum (by decide +kernel) (pa_cons (pe_lc (own := [("word", 15)]) (by rfl) sc_law_words_right.nd (pi_tup (pe_ix (Z.k_item (K := K)) (pv 3) pe_int (fun _ _ => rfl))) (blkOk_by (own := [("word", 15)]) (N := ["pot", "streams", "record", "good", "far", "due", "kind", "row", "signs", "strange", "some", "odd", "told", "part", "name", "word", "pair", "sign"]) (sc := defScope s_law_words_right) (by decide +kernel))
   (fun _ _ _ _ _ => (pg_name (i := 15) sc_law_words_right.nd rfl (by first | exact Or.inl rfl | exact Or.inr rfl))) (fun _ _ _ _ _ => pts_nil) (fun _ _ _ _ _ => (pe_callB (Z.k_len (K := K)) (by rfl) T.len (by decide +kernel) (pa_cons (pv 15) pa_nil)))) pa_nil))))
 (pss_cons (ps_if (pt_cmpR (Z.k_ne (K := K) hu) (pe_meth (pv 1) SC.cl Msteps_of.meth Gsteps_of (hr.mono (by decide)) Msteps_of.b .nil pass0 (pa_cons (pe_ix (Z.k_item (K := K)) (pv 3) pe_int (fun _ _ => rfl)) (pa_cons (pe_ix (Z.k_item (K := K)) (pv 3) pe_int (fun _ _ => rfl)) pa_nil))) (pv 5) (nomark _))
  (pss_one (ps_ret pe_bl))
  pss_nil)
 (pss_cons (ps_for PassesOwn.never rfl (pi_range1 (by rfl) T.range (pa_cons pe_int pa_nil)) (pg_name (i := 6) sc_law_words_right.nd rfl (by first | exact Or.inl rfl | exact Or.inr rfl))
  (pss_cons (ps_asg (pe_tup (pa_cons (pe_ix (Z.k_item (K := K)) (pv 3) (pv 6) (fun _ _ => rfl)) (pa_cons (Z.k_join (K := K) pe_str (pe_lc (own := [("pair", 16)]) (by rfl) sc_law_words_right.nd (pi_tup (pe_ix (Z.k_item (K := K)) (pv 2) (pv 6) (fun _ _ => rfl))) (blkOk_by (own := [("pair", 16)]) (N := ["pot", "streams", "record", "good", "far", "due", "kind", "row", "signs", "strange", "some", "odd", "told", "part", "name", "word", "pair", "sign"]) (sc := defScope s_law_words_right) (by decide +kernel))
   (fun _ _ _ _ _ => (pg_name (i := 16) sc_law_words_right.nd rfl (by first | exact Or.inl rfl | exact Or.inr rfl))) (fun _ _ _ _ _ => pts_nil) (fun _ _ _ _ _ => (pe_ix (Z.k_item (K := K)) (pv 16) pe_int (fun _ _ => rfl))))) pa_nil))) (Z.k_tup (K := K) (n := 2) rfl (pgs_cons (pg_name (i := 7) sc_law_words_right.nd rfl (by first | exact Or.inl rfl | exact Or.inr rfl)) (pgs_cons (pg_name (i := 8) sc_law_words_right.nd rfl (by first | exact Or.inl rfl | exact Or.inr rfl)) pgs_nil))))
 (pss_cons (ps_set (i := 9) sc_law_words_right.nd rfl (by first | exact Or.inl rfl | exact Or.inr rfl) (pe_ix (Z.k_item (K := K)) (pe_lc (own := [("sign", 17)]) (by rfl) sc_law_words_right.nd (pi_str pe_str) (blkOk_by (own := [("sign", 17)]) (N := ["pot", "streams", "record", "good", "far", "due", "kind", "row", "signs", "strange", "some", "odd", "told", "part", "name", "word", "pair", "sign"]) (sc := defScope s_law_words_right) (by decide +kernel))
   (fun _ _ _ _ _ => (pg_name (i := 17) sc_law_words_right.nd rfl (by first | exact Or.inl rfl | exact Or.inr rfl))) (fun _ _ _ _ _ => pts_one (pt_cmpR op_notInS (pv 17) (pv 8) (by rfl))) (fun _ _ _ _ _ => (pv 17))) pe_int (fun _ _ => rfl)))
 (pss_cons (ps_set (i := 10) sc_law_words_right.nd rfl (by first | exact Or.inl rfl | exact Or.inr rfl) (pe_lst (pa_cons (pe_op (Z.k_add (K := K)) (pv 7) (pe_tup (pa_cons pe_str pa_nil))) (pa_cons (pe_ifExp (pt_cmpR (Z.k_ne (K := K) hu) (pv 7) (pe_tup pa_nil) (nomark _)) (pe_slice (Z.k_cut (K := K)) (pv 7) (po_some pe_int) po_none) (pe_tup (pa_cons pe_str pa_nil))) (pa_cons (pe_callTy (Z.k_list (K := K) rfl) (by rfl) T.list (by decide +kernel) (pa_cons (pv 7) pa_nil)) (pa_cons pe_non (pa_cons pe_int (pa_cons pe_str (pa_cons pe_dnewK (pa_cons (pe_tup (pa_cons (pv 7) pa_nil)) (pa_cons (pe_op (Z.k_add (K := K)) (pv 7) (pe_tup (pa_cons pe_non pa_nil))) (pa_cons pe_bl pa_nil))))))))))))
 (pss_cons (ps_if (pt_cmpR (Z.k_ne (K := K) hu) (pv 7) (pe_tup pa_nil) (nomark _))
  (pss_cons (ps_set (i := 10) sc_law_words_right.nd rfl (by first | exact Or.inl rfl | exact Or.inr rfl) (pe_op (Z.k_add (K := K)) (pv 10) (pe_lst (pa_cons (pe_op (Z.k_add (K := K)) (pe_tup (pa_cons (pe_op (Z.k_add (K := K)) (pe_ix (Z.k_item (K := K)) (pv 7) pe_int (fun _ _ => rfl)) (pv 9)) pa_nil)) (pe_slice (Z.k_cut (K := K)) (pv 7) (po_some pe_int) po_none)) (pa_cons (pe_op (Z.k_add (K := K)) (pe_tup (pa_cons pe_non pa_nil)) (pe_slice (Z.k_cut (K := K)) (pv 7) (po_some pe_int) po_none)) (pa_cons (pe_op (Z.k_add (K := K)) (pe_tup (pa_cons (pe_slice (Z.k_cut (K := K)) (pv 7) po_none (po_some pe_int)) pa_nil)) (pe_slice (Z.k_cut (K := K)) (pv 7) (po_some pe_int) po_none)) (pa_cons (pe_op (Z.k_add (K := K)) (pe_slice (Z.k_cut (K := K)) (pv 7) po_none (po_some (pe_un un_neg pe_int))) (pe_tup (pa_cons pe_int pa_nil))) pa_nil)))))))
 (pss_one (ps_set (i := 10) sc_law_words_right.nd rfl (by first | exact Or.inl rfl | exact Or.inr rfl) (pe_op (Z.k_add (K := K)) (pv 10) (pe_lst (pa_cons (pe_op (Z.k_add (K := K)) (pe_tup (pa_cons pe_str pa_nil)) (pe_slice (Z.k_cut (K := K)) (pv 7) (po_some pe_int) po_none)) (pa_cons (pe_op (Z.k_add (K := K)) (pe_tup (pa_cons (pe_op (Z.k_add (K := K)) pe_str (pe_ix (Z.k_item (K := K)) (pv 7) pe_int (fun _ _ => rfl))) pa_nil)) (pe_slice (Z.k_cut (K := K)) (pv 7) (po_some pe_int) po_none)) pa_nil)))))))
  pss_nil)
 (pss_cons (ps_set (i := 11) sc_law_words_right.nd rfl (by first | exact Or.inl rfl | exact Or.inr rfl) (pe_call G_law_choose (hr.mono (by decide)) (by rfl) D_law_choose.g D_law_choose.F.kp D_law_choose.b .nil pass0 (pa_cons (pv 0) (pa_cons (pv 10) pa_nil))))
 (pss_cons (ps_set (i := 12) sc_law_words_right.nd rfl (by first | exact Or.inl rfl | exact Or.inr rfl) (pe_lst (pa_cons (pe_meth (pv 1) SC.cl Mis_content.meth Gis_content (hr.mono (by decide)) Mis_content.b .nil pass0 (pa_cons (pv 7) pa_nil)) (pa_cons (pe_meth (pv 1) SC.cl Mis_content.meth Gis_content (hr.mono (by decide)) Mis_content.b .nil pass0 (pa_cons (pv 11) pa_nil)) pa_nil))))
 (pss_cons (ps_if (pt_cmpR (Z.k_eq (K := K) hu) (pv 6) pe_int (nomark _))
  (pss_one (ps_set (i := 12) sc_law_words_right.nd rfl (by first | exact Or.inl rfl | exact Or.inr rfl) (pe_lst (pa_cons (pe_meth (pv 1) SC.cl Mis_filling.meth Gis_filling (hr.mono (by decide)) Mis_filling.b .nil pass0 (pa_cons (pv 7) pa_nil)) (pa_cons (pe_meth (pv 1) SC.cl Mis_filling.meth Gis_filling (hr.mono (by decide)) Mis_filling.b .nil pass0 (pa_cons (pv 11) pa_nil)) pa_nil)))))
  pss_nil)
 (pss_one (ps_if (pt_cmpR (Z.k_ne (K := K) hu) (pe_callB (Z.k_repr (K := K) hq hr) (by rfl) T.repr (by decide +kernel) (pa_cons (pv 12) pa_nil)) pe_str (nomark _))
  (pss_one (ps_ret pe_bl))
  pss_nil))))))))))
 (pss_one (ps_ret pe_bl)))))))), ?_⟩
    walk_at "st"
    refine ⟨⟨_, sql_unhid hL⟩, comp2 (walkL (xs := [.ref t1, .ref t2])) (Mv a H) (fun L i acc H2 => acc.length = i ∧ ∀ (j : Nat) (v : V) (pk : List (Str × Str)), acc[j]? = some v → [ps, qs][j]? = some pk → ∃ ρ ws, v = .ref ρ ∧ SqT K (hid L (hid a H2)) ρ (oneOf ws) ∧ RowOk pk ws ∧ ∀ z ∈ ws, z.length ≤ 6) (Mv.refl pot) (fun L o H2 e m => m.upd pot e) ?_ ?_ (fun H2 m => sql_unhid (sql_mv hL m)) ?_ ?_⟩
    · rintro L o i acc H2 e _ ⟨h1, h2⟩
      rw [hid2_upd]
      exact ⟨h1, h2⟩
    · intro L e
      exact ⟨rfl, fun j v pk h => by simp at h⟩
    · rintro L i acc v H2 fresh hi hv len m at_ ⟨many, rows⟩
      have hi2 : i < 2 := hi
      obtain ⟨tk, xk, pk, rfl, epk, hk, dk, lk, gk⟩ : ∃ tk xk, ∃ pk : List (Str × Str), v = .ref tk ∧ [ps, qs][i]? = some pk ∧ SqT K (hid a H) tk xk ∧ DzAll K (hid a H) xk (pk.map prD) ∧ pk.length ≤ 3 ∧ GoodP pk := by
        rcases (show i = 0 ∨ i = 1 by omega) with rfl | rfl
        · exact ⟨t1, xs1, ps, (Option.some.inj hv).symm, rfl, a1, d1, lp, sg.good⟩
        · exact ⟨t2, xs2, qs, (Option.some.inj hv).symm, rfl, a2, d2, lq, sg.good2⟩
      have nk := dk.len
      rw [List.length_map] at nk
      have La : L ≠ a := Mv.ne pot (Mv.refl pot) fresh
      refine turn1 rfl ?_
      walk_at "st"
      refine ⟨⟨_, sqt_unhid (sqt_mv hk m)⟩, comp (walkT (xs := xk)) (Mv a H2) (fun n acc2 H3 => ∃ ws : List Str, acc2 = oneOf ws ∧ ws.length = n ∧ ∀ (j : Nat) (p : Str × Str) (z : Str), pk[j]? = some p → ws[j]? = some z → (∀ c ∈ z.cps.toList, c ∈ p.2.cps.toList) ∧ z.length ≤ 6) (Mv.refl m.pot) (fun L o H3 e m3 => m3.upd m.pot e) (fun _ _ _ _ _ _ _ h => h) ⟨[], rfl, rfl, by simp⟩ (fun _ _ H3 m3 _ => sqt_unhid (sqt_mv hk (m.trans m3))) ?_ ?_⟩
      · rintro L2 n acc2 v2 H3 fresh2 hn hv2 len2 m3 at2 ⟨ws, rfl, many2, hws⟩
        have ln : n < pk.length := by omega
        obtain ⟨d, hd, dv⟩ := (dk.mv (m.trans m3)).get hv2
        rw [List.getElem?_map, List.getElem?_eq_getElem ln] at hd
        have ed : d = prD pk[n] := (Option.some.inj hd).symm
        rw [ed] at dv
        obtain ⟨ax, zx, rfl, hax, hzx⟩ := dv.tuple
        have gn := gk pk[n] (List.getElem_mem ln)
        cases hzx with
        | cons q1 q =>
          cases q with
          | cons q2 q =>
            cases q
            cases q1
            cases q2
            obtain ⟨sl0, sl4, slet⟩ := wordB_len (signs_w4 gn.2)
            refine ⟨ax, [.str pk[n].1, .str pk[n].2], rfl, sqt_unhid hax, rfl, ?_⟩
            refine s_gcons (s_name (s_gcons (s_name (s_gnil ?_))))
            refine ⟨rfl, s_yes (iteT ?_)⟩
            walk_at "st"
            refine ⟨a, pk[n].2, 6, rfl, m3.pot, sl0, by omega, by decide, by decide, fun H4 z m4 lz cz => ?_⟩
            refine put (acc := oneOf ws) fresh2 (fun L o H3 e m3 => m3.upd m.pot e) (fun _ _ _ _ _ _ _ h => h) (m4.at (Mv.ne m.pot (Mv.refl m.pot) fresh2) at2) (by omega) len2 (m3.trans m4) ⟨ws ++ [z], ?_, ?_, ?_⟩
            · unfold oneOf
              rw [List.map_append]
              rfl
            · rw [List.length_append, many2]
              rfl
            · intro j p y hp hy
              by_cases c : j < ws.length
              · rw [List.getElem?_append_left c] at hy
                exact hws j p y hp hy
              · have lj : j < (ws ++ [z]).length := (List.getElem?_eq_some_iff.mp hy).1
                rw [List.length_append, List.length_singleton] at lj
                have ej : j = n := by omega
                subst ej
                rw [List.getElem?_append_right (by omega), many2, Nat.sub_self] at hy
                have ey : y = z := (Option.some.inj hy).symm
                rw [List.getElem?_eq_getElem ln] at hp
                have ep : p = pk[j] := (Option.some.inj hp).symm
                rw [ey, ep]
                exact ⟨cz, by omega⟩
      · rintro L2 acc2 H3 fresh2 len2 m3 at2 ⟨ws, rfl, many2, hws⟩
        have row : RowOk pk ws ∧ ∀ z ∈ ws, z.length ≤ 6 := by
          have six : ∀ z ∈ ws, z.length ≤ 6 := by
            intro z hz
            obtain ⟨j, hj, ej⟩ := List.getElem_of_mem hz
            have lj : j < pk.length := by omega
            exact (hws j pk[j] z (List.getElem?_eq_getElem lj) (by rw [List.getElem?_eq_getElem hj, ej])).2
          exact ⟨⟨by omega, fun j p z hp hz => (hws j p z hp hz).1, fun z hz => Nat.le_trans (six z hz) (by decide)⟩, six⟩
        walk_at "st"
        refine ⟨_, .inl ⟨SqL.of at2, fun ρ nρ => ?_⟩⟩
        generalize eg : upd H3 ρ _ = H4
        have m4 : Mv a H3 H4 := by rw [← eg]; exact (Mv.refl m3.pot).new nρ
        have hρ : H4 ρ = some (.tup (oneOf ws)) := by rw [← eg]; exact upd_same
        have at3 := m3.at La at_
        refine put2 (acc := acc) (fun o H6 m6 => m6.upd pot fresh) ?_ (m4.at La at3) (by omega) len (m.trans (m3.trans m4)) ⟨?_, ?_⟩
        · rintro o i acc H6 _ ⟨h1, h2⟩
          rw [hid2_upd]
          exact ⟨h1, h2⟩
        · rw [List.length_append, many]
          rfl
        · intro j v pk2 hj hp
          by_cases c : j < acc.length
          · rw [List.getElem?_append_left c] at hj
            obtain ⟨ρ2, ws2, e, q, rest⟩ := rows j v pk2 hj hp
            exact ⟨ρ2, ws2, e, same_sqt (same_hidden (m3.trans m4).same) q, rest⟩
          · have lj : j < (acc ++ [V.ref ρ]).length := (List.getElem?_eq_some_iff.mp hj).1
            rw [List.length_append, List.length_singleton] at lj
            have ej : j = i := by omega
            subst ej
            rw [List.getElem?_append_right (by omega), many, Nat.sub_self] at hj
            have ev : v = .ref ρ := (Option.some.inj hj).symm
            have ep : pk2 = pk := Option.some.inj (hp.symm.trans epk)
            rw [ev, ep]
            refine ⟨ρ, ws, rfl, SqT.of ?_, row⟩
            rw [hid_ne (ne_of_none at3 nρ).symm, hid_ne (Mv.ne m3.pot (Mv.refl m3.pot) nρ)]
            exact hρ
    · rintro g acc H2 fg len m02 hg ⟨many, rows⟩
      obtain ⟨v1, v2, rfl⟩ : ∃ v1 v2, acc = [v1, v2] := by
        match acc, many with
        | [v1, v2], _ => exact ⟨_, _, rfl⟩
      obtain ⟨r1, ws1, rfl, s1, ok1, six1⟩ := rows 0 v1 ps rfl rfl
      obtain ⟨r2, ws2, rfl, s2, ok2, six2⟩ := rows 1 v2 qs rfl rfl
      have s1 := same_sqt same_hid s1
      have s2 := same_sqt same_hid s2
      have ga : g ≠ a := Mv.ne pot (Mv.refl pot) fg
      obtain ⟨w0, wr, rfl⟩ : ∃ w0 wr, ws1 = w0 :: wr := by
        have := ok1.len
        have := sg.one
        match ws1, ok1.len with
        | [], e => exact absurd e (by simp only [List.length_nil]; omega)
        | w0 :: wr, _ => exact ⟨_, _, rfl⟩
      obtain ⟨p0, pr, eps⟩ : ∃ p0 pr, ps = p0 :: pr := by
        have := sg.one
        match ps, this with
        | p0 :: pr, _ => exact ⟨_, _, rfl⟩
      have gp0 := sg.good p0 (by rw [eps]; exact List.mem_cons_self)
      obtain ⟨ax, hx0, hax⟩ : ∃ ax, xs1[0]? = some (.ref ax) ∧ SqT K (hid a H) ax [.str p0.1, .str p0.2] := by
        have l0 : 0 < xs1.length := by have := sg.one; omega
        obtain ⟨d, hd, dv⟩ := d1.get (List.getElem?_eq_getElem l0)
        rw [eps] at hd
        have ed : d = prD p0 := (Option.some.inj hd).symm
        rw [ed] at dv
        obtain ⟨ax, zx, ex, hax, hzx⟩ := dv.tuple
        cases hzx with
        | cons q1 q =>
          cases q with
          | cons q2 q =>
            cases q
            cases q1
            cases q2
            exact ⟨ax, by rw [List.getElem?_eq_getElem l0, ex], hax⟩
      obtain ⟨sl0, sl4, slet⟩ := wordB_len (signs_w4 gp0.2)
      have w06 := six1 w0 List.mem_cons_self
      walk_at "st"
      refine ⟨by show 3 ≤ sizeLine; decide, fun l nl => ?_⟩
      generalize egl : upd H2 l _ = H3
      obtain ⟨m3, _, la, hl⟩ := at_newL (K := K) egl nl m02.pot
      clear egl
      walk_at "st"
      refine ⟨a, m3.pot, .inl ⟨l, _, rfl, Beside.lst la hl, by decide, by decide, fun H4 v m4 hv => ?_⟩⟩
      obtain ⟨n, rfl, hn⟩ : ∃ n : Nat, v = .int (n : Nat) ∧ (n = 0 ∨ n = 300) := by
        simp only [List.mem_cons, List.not_mem_nil, or_false] at hv
        rcases hv with e | e | e
        · exact ⟨0, e, .inl rfl⟩
        · exact ⟨0, e, .inl rfl⟩
        · exact ⟨300, e, .inr rfl⟩
      have m24 := m3.trans m4
      have m04 := m02.trans m24
      have hg4 := m24.at ga hg
      walk_at "st"
      refine item (SqL.of hg4) (by rfl) ?_
      walk_at "st"
      refine itemT (sqt_unhid (sqt_mv s1 m24)) (v := .str w0) at_0 ?_
      walk_at "st"
      refine item (sql_unhid (sql_mv hL m04)) (by rfl) ?_
      walk_at "st"
      refine itemT (sqt_unhid (sqt_mv a1 m04)) (v := .ref ax) (atI_lt (by decide) hx0) ?_
      walk_at "st"
      refine itemT (sqt_unhid (sqt_mv hax m04)) (v := .str p0.2) (by rfl) ?_
      walk_at "st"
      have sl0' : 0 < p0.2.cps.toList.length := by
        rw [Array.length_toList]
        exact sl0
      refine ⟨by rw [sizeLine_eq]; omega, p0.2.cps.toList[0], atI_lt (by decide) (List.getElem?_eq_getElem sl0'), ?_⟩
      have mem0 : p0.2.cps.toList[0] ∈ p0.2.cps.toList := List.getElem_mem sl0'
      generalize p0.2.cps.toList[0] = c0 at mem0
      obtain ⟨mo, ml, mc⟩ := mul_sign (c := c0) hn
      walk_at "st"
      refine ⟨mo, ?_⟩
      refine ⟨by rw [sizeLine_eq]; omega, ?_⟩
      have lw : (w0 ++ Txt.mul ⟨#[c0]⟩ (n : Nat)).length ≤ 306 := by
        rw [strLen_append]
        omega
      have cw : ∀ c ∈ (w0 ++ Txt.mul ⟨#[c0]⟩ (n : Nat)).cps.toList, c ∈ p0.2.cps.toList := by
        intro c hc
        rw [PySem.Str.cps_append, Array.toList_append] at hc
        rcases List.mem_append.mp hc with hc | hc
        · exact ok1.sg 0 p0 w0 (by rw [eps]; rfl) rfl c hc
        · rw [mc c hc]
          exact mem0
      generalize w0 ++ Txt.mul ⟨#[c0]⟩ (n : Nat) = w1 at lw cw
      have ok1 : RowOk ps (w1 :: wr) := by
        refine ⟨ok1.len, fun i p z hp hz => ?_, fun z hz => ?_⟩
        · cases i with
          | zero =>
            rw [eps] at hp
            rw [← Option.some.inj hp, ← Option.some.inj hz]
            exact cw
          | succ i => exact ok1.sg (i + 1) p z hp hz
        · rcases List.mem_cons.mp hz with e | hz
          · rw [e]
            omega
          · exact ok1.few z (List.mem_cons_of_mem _ hz)
      walk_at "st"
      refine ⟨by show 1 ≤ sizeLine; decide, fun p5 np5 => ?_⟩
      generalize egp5 : upd H4 p5 _ = H5
      obtain ⟨m5, h5⟩ := at_new (K := K) egp5 np5 m04.pot
      clear egp5
      walk_at "st"
      refine item (SqL.of (m5.at ga hg4)) (by rfl) ?_
      walk_at "st"
      refine cutM m5.pot (sqt_mv s1 (m24.trans m5)) fun p6 H6 m6 h6 => ?_
      rw [cut_drop _ (by decide), show (1 : Int).toNat = 1 from rfl] at h6
      have lwr : wr.length ≤ 3 := by
        have := ok1.len
        rw [List.length_cons] at this
        omega
      refine catM m6.pot (sqt_mv h5 m6) h6 (by show 1 + (oneOf wr).length ≤ 1000; rw [List.length_map]; omega) fun p7 H7 m7 h7 => ?_
      have hg7 := (m5.trans (m6.trans m7)).at ga hg4
      have m07 := m04.trans (m5.trans (m6.trans m7))
      walk_at "st"
      refine ⟨_, 0, hg7, rfl, ?_⟩
      generalize e8 : upd H7 g _ = H8
      have hg8 : H8 g = some (.lst [.ref p7, .ref r2]) := by
        rw [← e8, upd_same]
        rfl
      have m08 : Mv a H H8 := by rw [← e8]; exact m07.upd pot fg
      have s7 : SqT K (hid a H8) p7 (oneOf (w1 :: wr)) := by rw [← e8]; exact sqt_upd h7 hg7
      have s8 : SqT K (hid a H8) r2 (oneOf ws2) := by rw [← e8]; exact sqt_upd (sqt_mv s2 (m24.trans (m5.trans (m6.trans m7)))) hg7
      clear e8 h7 hg7 h6 h5 s1 s2 rows
      walk_at "st"
      refine item (sql_unhid (sql_mv hL m08)) (by rfl) ?_
      walk_at "st"
      refine .inl ⟨_, .inr (sqt_unhid (sqt_mv a1 m08)), ?_⟩
      walk_at "st"
      refine item (SqL.of hg8) (by rfl) ?_
      refine ⟨p7, rfl, ⟨_, sqt_unhid s7⟩, comp_lens (zs := w1 :: wr) (sqt_unhid s7) (by rw [List.length_cons]; omega) (fun z hz => Nat.le_trans (ok1.few z hz) (by decide)) (fun _ => rfl) (fun _ => rfl) ?_⟩
      intro L9 H9 f9 s9 at9
      walk_at "st"
      refine ⟨L9, _, rfl, SqL.of at9, ?_⟩
      walk_at "st"
      refine item (SqL.of (s9 _ _ hg8)) (by rfl) ?_
      refine ⟨r2, rfl, ⟨_, same_sqt s9 (sqt_unhid s8)⟩, comp_lens (zs := ws2) (same_sqt s9 (sqt_unhid s8)) (by have := ok2.len; omega) (fun z hz => Nat.le_trans (ok2.few z hz) (by decide)) (fun _ => rfl) (fun _ => rfl) ?_⟩
      intro L10 H10 f10 s10 at10
      walk_at "st"
      refine ⟨L10, _, rfl, SqL.of at10, ?_⟩
      rw [sum_cast, sum_cast, n1]
      have s810 := s9.trans s10
      have m810 := Mv.of_same m08.pot s810
      have m010 := m08.trans m810
      obtain ⟨dx, _, _, _, _, _, hx1, _⟩ := id (st.mv m010).un
      walk_at "st"
      with_reducible refine s_meth ?_
      walk_at "st"
      refine ⟨x, dx, _, rfl, hx1, sF_no (by decide +kernel) (by decide +kernel) (by decide +kernel) (by decide +kernel), ?_⟩
      walk_at "st"
      refine item (SqL.of (s810 _ _ hg8)) (by rfl) ?_
      walk_at "st"
      refine item (SqL.of (s810 _ _ hg8)) (by rfl) ?_
      walk_at "st"
      refine ⟨x, .ref p7, .ref r2, ps, qs, w1 :: wr, ws2, rfl, (st.mv m010).un, lp, lq, .tup (sqt_unhid (sqt_mv s7 m810)) (DzAll.strs _), .tup (sqt_unhid (sqt_mv s8 m810)) (DzAll.strs _), fun z hz => ?_, ok1.yes, ok2.yes, fun H11 s11 => ?_⟩
      · rcases List.mem_append.mp hz with hz | hz
        · exact Nat.le_trans (ok1.few z hz) (by decide)
        · exact Nat.le_trans (ok2.few z hz) (by decide)
      have s811 := s810.trans s11
      have m811 := Mv.of_same m08.pot s811
      have m011 := m08.trans m811
      walk_at "st"
      rw [decide_eq_true (by omega)]
      refine iteF ?_
      have hg11 := s811 _ _ hg8
      have s7' := sqt_mv s7 m811
      have s8' := sqt_mv s8 m811
      walk_at "st"
      refine ⟨by decide, by decide, loop walkR (fun i σ2 H12 => (∃ x4 x5 x6 x7 x8 x9 x10 x11 x12 x13 x14 x15 x16 x17, σ2 = [some (.ref a), some (.ref x), some (.ref r), some (.ref g), x4, x5, x6, x7, x8, x9, x10, x11, x12, x13, x14, x15, x16, x17]) ∧ Mv a H11 H12) ⟨⟨_, _, _, _, _, _, _, _, _, _, _, _, _, _, rfl⟩, Mv.refl m011.pot⟩ (fun _ _ _ _ => trivial) ?_ ?_⟩
      · rintro i xi σ2 H12 hi rfl ⟨⟨x4, x5, x6, x7, x8, x9, x10, x11, x12, x13, x14, x15, x16, x17, rfl⟩, m12⟩
        have hi2 : i < 2 := hi
        have m012 := m011.trans m12
        obtain ⟨ρ, ws, pk, tk, xk, hit, hρ, ok, hit2, hk, dk, gk, lk, ho⟩ : ∃ ρ ws, ∃ pk : List (Str × Str), ∃ tk xk, atI [V.ref p7, V.ref r2] (0 + (i : Int)) = some (.ref ρ) ∧ SqT K (hid a H12) ρ (oneOf ws) ∧ RowOk pk ws ∧ atI [V.ref t1, V.ref t2] (0 + (i : Int)) = some (.ref tk) ∧ SqT K (hid a H12) tk xk ∧ DzAll K (hid a H12) xk (pk.map prD) ∧ GoodP pk ∧ pk.length ≤ 3 ∧ ((i = 0 ∧ pk = ps) ∨ (i = 1 ∧ pk = qs)) := by
          rcases (show i = 0 ∨ i = 1 by omega) with rfl | rfl
          · exact ⟨p7, _, ps, t1, xs1, rfl, sqt_mv s7' m12, ok1, rfl, sqt_mv a1 m012, d1.mv m012, sg.good, lp, .inl ⟨rfl, rfl⟩⟩
          · exact ⟨r2, _, qs, t2, xs2, rfl, sqt_mv s8' m12, ok2, rfl, sqt_mv a2 m012, d2.mv m012, sg.good2, lq, .inr ⟨rfl, rfl⟩⟩
        have hg12 := m12.at ga hg11
        have lws : ws.length = pk.length := ok.len
        have small : ∀ z ∈ ws, ∀ c ∈ z.cps.toList, c < 256 := by
          intro z hz c hc
          obtain ⟨j, hj, ej⟩ := List.getElem_of_mem hz
          have lj : j < pk.length := by omega
          have := ok.sg j pk[j] z (List.getElem?_eq_getElem lj) (by rw [List.getElem?_eq_getElem hj, ej]) c hc
          exact letters_small (signs_w (gk pk[j] (List.getElem_mem lj)).2) c this
        have short : ∀ z, PyData.str z ∈ ws.map PyData.str → z.length ≤ 900000 := by
          intro z hz
          obtain ⟨y, hy, e⟩ := List.mem_map.mp hz
          cases e
          exact Nat.le_trans (ok.few z hy) (by decide)
        have ssum := sum_signs gk
        obtain ⟨G, eG⟩ : ∃ G, G = Txt.join (Str.ofString "") (pk.map (·.2)) := ⟨_, rfl⟩
        have l12 : G.length ≤ 12 := by
          rw [eG, join_len]
          omega
        have sub : ∀ p ∈ pk, ∀ c ∈ p.2.cps.toList, c ∈ G.cps.toList := by
          rw [eG]
          exact fun p hp c hc => join_mem (List.mem_map.mpr ⟨p, hp, rfl⟩) hc
        walk_at "st"
        refine item (SqL.of hg12) hit ?_
        walk_at "st"
        refine item (sql_unhid (sql_mv hL m012)) hit2 ?_
        refine ⟨tk, rfl, ⟨_, sqt_unhid hk⟩, comp_snd (ps := pk) (sqt_unhid hk) dk.un (by omega) (fun _ => rfl) (fun _ => rfl) ?_⟩
        intro L13 H13 f13 s13 at13
        have m13 := Mv.of_same m12.pot s13
        walk_at "st"
        refine ⟨pk.map (·.2), .inl (SqL.of at13), ?_, ?_⟩
        · rw [show (Str.ofString "").length = 0 from by decide +kernel]
          omega
        rw [← eG]
        walk_at "st"
        refine ⟨by show 2 ≤ sizeLine; decide, fun p14 np14 => ?_⟩
        generalize egp14 : upd H13 p14 _ = H14
        obtain ⟨m14, h14⟩ := at_new (K := K) egp14 np14 m13.pot
        clear egp14
        walk_at "st"
        refine ⟨p14, _, rfl, sqt_unhid h14, rfl, ?_⟩
        walk_at "st"
        refine comp_odd (g := G) l12 (fun _ => rfl) (fun _ => rfl) (fun _ => rfl) fun L15 H15 c rr f15 s15 nc lc at15 => ?_
        have m15 := Mv.of_same m14.pot s15
        walk_at "st"
        refine item (SqL.of at15) at_0 ?_
        have hρ15 := sqt_mv hρ (m13.trans (m14.trans m15))
        have m015 := m012.trans (m13.trans (m14.trans m15))
        walk_at "st"
        refine ⟨by show 1 ≤ sizeLine; decide, fun p16 np16 => ?_⟩
        generalize egp16 : upd H15 p16 _ = H16
        obtain ⟨m16, h16⟩ := at_new (K := K) egp16 np16 m15.pot
        clear egp16
        refine catM m16.pot (sqt_mv hρ15 m16) h16 (by rw [List.length_map]; show ws.length + 1 ≤ 1000; omega) fun e1 H17 m17 h17 => ?_
        have b1 : Bads K a pk H17 [.ref e1] := fun v hv => by
          rw [List.mem_singleton.mp hv]
          refine Bad.tup h17 (DzAll.app (DzAll.strs ws) (DzAll.strs [Str.ofString ""])) (wordsD_len ?_) (fun z hz => ?_)
          · rw [List.length_append, List.length_map]
            show ws.length + 1 ≠ _
            omega
          · rcases List.mem_append.mp hz with hz | hz
            · exact short z hz
            · have e := List.mem_singleton.mp hz
              cases e
              decide +kernel
        have hρ17 := sqt_mv hρ15 (m16.trans m17)
        with_reducible refine Z.s_cons ?_
        with_reducible refine eitherC (M := Mv a H17) (C := fun b => b = !decide (ws = [])) (R := fun v H1 => Mv a H17 H1 ∧ Bad K a pk H1 v) ?_ ?_ ?_ ?_
        · intro S q
          walk_at "st"
          refine ⟨by show 0 ≤ sizeLine; decide, fun p18 np18 => ?_⟩
          generalize egp18 : upd H17 p18 _ = H18
          obtain ⟨m18, h18⟩ := at_new (K := K) egp18 np18 m17.pot
          clear egp18
          refine ne_none (sqt_unhid (sqt_mv hρ17 m18)) (sqt_unhid h18) small ?_
          refine s_bl (P := _) ?_
          exact q _ H18 m18 rfl
        · intro Q2 post H18 m18 cc
          have nz : ws ≠ [] := fun e => by
            rw [decide_eq_true e] at cc
            cases cc
          have pz : 0 < ws.length := List.length_pos_iff.mpr nz
          walk_at "st"
          refine cutM m18.pot (sqt_mv hρ17 m18) fun e2 H19 m19 h19 => ?_
          rw [cut_drop _ (by decide), ← List.map_drop] at h19
          refine post _ H19 ⟨m18.trans m19, Bad.tup h19 (DzAll.strs _) (wordsD_len ?_) (fun z hz => ?_)⟩
          · rw [List.length_map, List.length_drop, show (1 : Int).toNat = 1 from rfl]
            omega
          · rw [List.map_drop] at hz
            exact short z (List.mem_of_mem_drop hz)
        · intro Q2 post H18 m18 cc
          have nz : ws = [] := by
            refine Classical.byContradiction fun n => ?_
            rw [decide_eq_false n] at cc
            cases cc
          walk_at "st"
          refine ⟨by show 1 ≤ sizeLine; decide, fun e2 ne2 => ?_⟩
          generalize ege2 : upd H18 e2 _ = H19
          obtain ⟨m19, h19⟩ := at_new (K := K) ege2 ne2 m18.pot
          clear ege2
          refine post _ H19 ⟨m18.trans m19, Bad.tup h19 (DzAll.strs [Str.ofString ""]) (wordsD_len ?_) (fun z hz => ?_)⟩
          · rw [← lws, nz]
            decide
          · have e := List.mem_singleton.mp hz
            cases e
            decide +kernel
        rintro v2 H19 ⟨m19, bv2⟩
        have b2 := b1.snoc m19 bv2
        have hρ19 := sqt_mv hρ17 m19
        walk_at "st"
        refine listM m19.pot hρ19 fun l3 H20 m20 la20 h20 => ?_
        have b3 := b2.snoc m20 (Bad.flat (.lst h20 (DzAll.strs ws)) fun ds e => nomatch e)
        have b4 := b3.snoc (Mv.refl m20.pot) (Bad.flat .non fun ds e => nomatch e)
        have b5 := b4.snoc (Mv.refl m20.pot) (Bad.flat (.int 0) fun ds e => nomatch e)
        have b6 := b5.snoc (Mv.refl m20.pot) (Bad.flat (.str (Str.ofString "a")) fun ds e => nomatch e)
        walk_at "st"
        refine dnewM (K := K) m20.pot fun d4 H21 m21 h21 => ?_
        have b7 := b6.snoc m21 (Bad.flat h21 fun ds e => nomatch e)
        walk_at "st"
        refine ⟨by show 1 ≤ sizeLine; decide, fun p22 np22 => ?_⟩
        generalize egp22 : upd H21 p22 _ = H22
        obtain ⟨m22, h22⟩ := at_new (K := K) egp22 np22 m21.pot
        clear egp22
        have hρ22 := sqt_mv hρ19 (m20.trans (m21.trans m22))
        have b8 := b7.snoc m22 (Bad.tup h22 (.cons (.tup hρ22 (DzAll.strs ws)) .nil) (by
          by_cases c1 : pk.length = 1
          · exact wordsD_at (i := 0) (List.getElem?_eq_getElem (by omega : 0 < pk.length)) rfl (wordD_no fun z e => nomatch e)
          · exact wordsD_len fun e => c1 e.symm) fun z hz => by cases List.mem_singleton.mp hz)
        walk_at "st"
        refine ⟨by show 1 ≤ sizeLine; decide, fun p23 np23 => ?_⟩
        generalize egp23 : upd H22 p23 _ = H23
        obtain ⟨m23, h23⟩ := at_new (K := K) egp23 np23 m22.pot
        clear egp23
        refine catM m23.pot (sqt_mv hρ22 m23) h23 (by rw [List.length_map]; show ws.length + 1 ≤ 1000; omega) fun e5 H24 m24 h24 => ?_
        have b9 := b8.snoc (m23.trans m24) (Bad.tup h24 (DzAll.app (DzAll.strs ws) (.cons .non .nil)) (wordsD_len (by rw [List.length_append, List.length_map]; show ws.length + 1 ≠ _; omega)) fun z hz => by
          rcases List.mem_append.mp hz with hz | hz
          · exact short z hz
          · cases List.mem_singleton.mp hz)
        have b10 := b9.snoc (Mv.refl m24.pot) (Bad.flat (.bl true) fun ds e => nomatch e)
        walk_at "st"
        refine ⟨by show 10 ≤ sizeLine; decide, fun sm nsm => ?_⟩
        generalize egsm : upd H24 sm _ = H25
        obtain ⟨m25, _, nsm, hsm⟩ := at_newL (K := K) egsm nsm m24.pot
        clear egsm
        have b11 := b10.mv m25
        have hρ25 := sqt_mv hρ22 (m23.trans (m24.trans m25))
        have m1525 := m16.trans (m17.trans (m19.trans (m20.trans (m21.trans (m22.trans (m23.trans (m24.trans m25)))))))
        have m025 := m015.trans m1525
        have m1225 := (m13.trans (m14.trans m15)).trans m1525
        clear b1 b2 b3 b4 b5 b6 b7 b8 b9 b10 bv2 h16 h17 h20 h21 h22 h23 h24 hρ15 hρ17 hρ19 hρ22
        repeat (first | with_reducible refine Z.s_name ?_ | with_reducible refine Z.s_seq ?_ | with_reducible refine Z.s_next ?_)
        with_reducible refine if_join (fun σ1 H1 => ∃ sm2 vs, σ1 = [some (.ref a), some (.ref x), some (.ref r), some (.ref g), x4, x5, some (.int (0 + (i : Int))), some (.ref ρ), some (.str G), some (.str ⟨#[c]⟩), some (.ref sm2), x11, x12, x13, x14, x15, x16, x17] ∧ Mv a H25 H1 ∧ sm2 ≠ a ∧ H1 sm2 = some (.lst vs) ∧ Bads K a pk H1 vs ∧ 0 < vs.length ∧ vs.length ≤ 100) ?_ ?_
        · rintro σ1 H26 ⟨sm2, vs, rfl, m26, nsm2, hsm2, bs, v0, v100⟩
          have m026 := m025.trans m26
          have hρ26 := sqt_mv hρ25 m26
          obtain ⟨dx, _, _, _, _, _, hx26, _⟩ := id (st.mv m026).un
          walk_at "st"
          refine ⟨a, m26.pot, .inl ⟨sm2, vs, rfl, Beside.lst nsm2 hsm2, v0, Nat.lt_of_le_of_lt v100 (by decide), fun H27 v m27 hv => ?_⟩⟩
          obtain ⟨d, dd, dno, dw⟩ := (bs v hv).mv m27
          have m027 := m026.trans m27
          have hρ27 := sqt_mv hρ26 m27
          obtain ⟨dx, _, _, _, _, _, hx27, _⟩ := id (st.mv m027).un
          walk_at "st"
          with_reducible refine s_meth ?_
          walk_at "st"
          refine ⟨x, dx, _, rfl, hx27, sF_no (by decide +kernel) (by decide +kernel) (by decide +kernel) (by decide +kernel), ?_⟩
          walk_at "st"
          refine ⟨x, .ref ρ, ps, qs, _, rfl, (st.mv m027).un, lp, .tup (sqt_unhid hρ27) (DzAll.strs ws), ok.w1, fun H28 s28 => ?_⟩
          have m28 := Mv.of_same m27.pot s28
          walk_at "st"
          with_reducible refine s_meth ?_
          walk_at "st"
          refine ⟨x, dx, _, rfl, s28 _ _ hx27, sF_no (by decide +kernel) (by decide +kernel) (by decide +kernel) (by decide +kernel), ?_⟩
          walk_at "st"
          refine ⟨x, v, ps, qs, d, rfl, (st.mv (m027.trans m28)).un, lp, (dd.mv m28).un, dw, fun H29 s29 => ?_⟩
          have m29 := Mv.of_same m28.pot s29
          walk_at "st"
          refine ⟨by show 2 ≤ sizeLine; decide, fun td ntd => ?_⟩
          generalize egtd : upd H29 td _ = H30
          obtain ⟨m30, _, ntd, htd⟩ := at_newL (K := K) egtd ntd m29.pot
          clear egtd
          have m2730 := m28.trans (m29.trans m30)
          have m030 := m027.trans m2730
          have shown : (PyData.list [.bool true, .bool false]).shown = Str.ofString "[True, False]" := by decide +kernel
          have fitb : Fit 10000000 1 (.list [.bool true, .bool false]) := by
            refine Fit.lst (W := 1000) (k := 2) (fun e he => ?_) (Nat.le_refl _) (by decide)
            simp only [List.mem_cons, List.not_mem_nil, or_false] at he
            rcases he with rfl | rfl <;> exact Fit.bool (by decide)
          walk_at "st"
          rcases ho with ⟨e0, epk⟩ | ⟨e0, epk⟩
          · rw [decide_eq_false (by omega)]
            refine iteF ?_
            walk_at "st"
            rw [← epk, ok.yes, dno] at htd
            refine repr_of (n := 1) (.lst (SqL.of htd) (.cons (.bl true) (.cons (.bl false) .nil))) fitb (by decide) ?_
            walk_at "st"
            rw [shown, decide_eq_true rfl]
            refine iteF ?_
            walk_at "st"
            exact ⟨⟨_, _, _, _, _, _, _, _, _, _, _, _, _, _, rfl⟩, m12.trans (m1225.trans (m26.trans (m27.trans m2730)))⟩
          · rw [decide_eq_true (by omega)]
            refine iteT ?_
            have hx30 := m30.at (fun e => by
              obtain ⟨_, _, _, e2, _⟩ := m29.pot
              rw [← e, s29 _ _ (s28 _ _ hx27)] at e2
              cases e2) (s29 _ _ (s28 _ _ hx27))
            have hρ30 := sqt_mv hρ27 m2730
            walk_at "st"
            with_reducible refine s_meth ?_
            walk_at "st"
            refine ⟨x, dx, _, rfl, hx30, sF_no (by decide +kernel) (by decide +kernel) (by decide +kernel) (by decide +kernel), ?_⟩
            walk_at "st"
            refine ⟨x, .ref ρ, ps, qs, _, rfl, (st.mv m030).un, lq, .tup (sqt_unhid hρ30) (DzAll.strs ws), ok.w1, fun H31 s31 => ?_⟩
            have m31 := Mv.of_same m30.pot s31
            walk_at "st"
            with_reducible refine s_meth ?_
            walk_at "st"
            refine ⟨x, dx, _, rfl, s31 _ _ hx30, sF_no (by decide +kernel) (by decide +kernel) (by decide +kernel) (by decide +kernel), ?_⟩
            walk_at "st"
            refine ⟨x, v, ps, qs, d, rfl, (st.mv (m030.trans m31)).un, lq, (dd.mv (m2730.trans m31)).un, dw, fun H32 s32 => ?_⟩
            have m32 := Mv.of_same m31.pot s32
            walk_at "st"
            refine ⟨by show 2 ≤ sizeLine; decide, fun te nte => ?_⟩
            generalize egte : upd H32 te _ = H33
            obtain ⟨m33, _, nte, hte⟩ := at_newL (K := K) egte nte m32.pot
            clear egte
            walk_at "st"
            rw [← epk, ok.yes, dno] at hte
            refine repr_of (n := 1) (.lst (SqL.of hte) (.cons (.bl true) (.cons (.bl false) .nil))) fitb (by decide) ?_
            walk_at "st"
            rw [shown, decide_eq_true rfl]
            refine iteF ?_
            walk_at "st"
            exact ⟨⟨_, _, _, _, _, _, _, _, _, _, _, _, _, _, rfl⟩, m12.trans (m1225.trans (m26.trans (m27.trans (m2730.trans (m31.trans (m32.trans m33))))))⟩
        · intro D2 hn
          walk_at "st"
          refine ⟨by show 0 ≤ sizeLine; decide, fun p26 np26 => ?_⟩
          generalize egp26 : upd H25 p26 _ = H26
          obtain ⟨m26, h26⟩ := at_new (K := K) egp26 np26 m25.pot
          clear egp26
          have hρ26 := sqt_mv hρ25 m26
          refine ne_none (sqt_unhid hρ26) (sqt_unhid h26) small ?_
          refine s_bl (P := _) ?_
          by_cases cz : ws = []
          · rw [decide_eq_true cz]
            refine iteF ?_
            walk_at "st"
            exact hn _ _ ⟨sm, _, rfl, m26, nsm, m26.at nsm hsm, b11.mv m26, by show 0 < 10; decide, by show 10 ≤ 100; decide⟩
          · rw [decide_eq_false cz]
            refine iteT ?_
            obtain ⟨z0, zr, ews⟩ : ∃ z0 zr, ws = z0 :: zr := by
              match ws, cz with
              | z0 :: zr, _ => exact ⟨_, _, rfl⟩
              | [], n => exact absurd rfl n
            have hw0 : ws[0]? = some z0 := by rw [ews]; rfl
            have l0 : 0 < pk.length := by rw [← lws, ews]; exact Nat.zero_lt_succ _
            have hp0 : pk[0]? = some pk[0] := List.getElem?_eq_getElem l0
            have gp := gk pk[0] (List.getElem_mem l0)
            have lz0 := ok.few z0 (List.mem_of_getElem? hw0)
            have c1 : (⟨#[c]⟩ : Str).length = 1 := rfl
            have mem0 : ∀ d, d ∈ pk[0].2.cps.toList → letB d = true := (wordB_len (signs_w4 gp.2)).2.2
            have ditem : atI (oneOf ws) 0 = some (.str z0) := by rw [ews]; exact at_0
            have lrest : 1 + (oneOf (ws.drop 1)).length = pk.length := by
              rw [List.length_map, List.length_drop]
              omega
            -- a row with another head
            have head : ∀ {H0 : Hp} {e : Addr} {v : V} {d : PyData}, SqT K (hid a H0) e ([v] ++ oneOf (ws.drop 1)) → Dz K (hid a H0) v d → wordD pk[0].2 d = false → (∀ z, d = .str z → z.length ≤ 900000) → Bad K a pk H0 (.ref e) := by
              intro H0 e v d h dv no sm0
              refine Bad.tup h (.cons dv (DzAll.strs _)) (wordsD_at hp0 (d := d) rfl no) fun z hz => ?_
              rcases List.mem_cons.mp hz with e2 | hz
              · exact sm0 z e2.symm
              · rw [List.map_drop] at hz
                exact short z (List.mem_of_mem_drop hz)
            walk_at "st"
            refine itemT (sqt_unhid hρ26) (v := .str z0) ditem ?_
            walk_at "st"
            refine ⟨by rw [c1, sizeLine_eq]; omega, ?_⟩
            walk_at "st"
            refine ⟨by show 1 ≤ sizeLine; decide, fun p27 np27 => ?_⟩
            generalize egp27 : upd H26 p27 _ = H27
            obtain ⟨m27, h27⟩ := at_new (K := K) egp27 np27 m26.pot
            clear egp27
            walk_at "st"
            refine cutM m27.pot (sqt_mv hρ26 m27) fun s28 H28 m28 h28 => ?_
            rw [cut_drop _ (by decide), ← List.map_drop, show (1 : Int).toNat = 1 from rfl] at h28
            refine catM m28.pot (sqt_mv h27 m28) h28 (by show 1 + (oneOf (ws.drop 1)).length ≤ 1000; omega) fun eA H29 m29 hA => ?_
            have bA : Bads K a pk H29 [.ref eA] := fun v hv => by
              rw [List.mem_singleton.mp hv]
              refine head hA (.str _) (wordD_chr (c := c) ?_ fun n => nc (sub pk[0] (List.getElem_mem l0) c n)) fun z e => ?_
              · rw [PySem.Str.cps_append, Array.toList_append]
                exact List.mem_append_right _ (List.mem_singleton.mpr rfl)
              · cases e
                rw [strLen_append, c1]
                omega
            have hρ29 := sqt_mv hρ26 (m27.trans (m28.trans m29))
            walk_at "st"
            refine ⟨by show 1 ≤ sizeLine; decide, fun p30 np30 => ?_⟩
            generalize egp30 : upd H29 p30 _ = H30
            obtain ⟨m30, h30⟩ := at_new (K := K) egp30 np30 m29.pot
            clear egp30
            walk_at "st"
            refine cutM m30.pot (sqt_mv hρ29 m30) fun s31 H31 m31 h31 => ?_
            rw [cut_drop _ (by decide), ← List.map_drop, show (1 : Int).toNat = 1 from rfl] at h31
            refine catM m31.pot (sqt_mv h30 m31) h31 (by show 1 + (oneOf (ws.drop 1)).length ≤ 1000; omega) fun eB H32 m32 hB => ?_
            have bB := bA.snoc (m30.trans (m31.trans m32)) (head hB .non (wordD_no fun z e => nomatch e) fun z e => nomatch e)
            have hρ32 := sqt_mv hρ29 (m30.trans (m31.trans m32))
            walk_at "st"
            refine cutM m32.pot hρ32 fun s33 H33 m33 h33 => ?_
            rw [cut_take _ (by decide), ← List.map_take] at h33
            walk_at "st"
            refine ⟨by show 1 ≤ sizeLine; decide, fun p34 np34 => ?_⟩
            generalize egp34 : upd H33 p34 _ = H34
            obtain ⟨m34, h34⟩ := at_new (K := K) egp34 np34 m33.pot
            clear egp34
            walk_at "st"
            refine cutM m34.pot (sqt_mv hρ32 (m33.trans m34)) fun s35 H35 m35 h35 => ?_
            rw [cut_drop _ (by decide), ← List.map_drop, show (1 : Int).toNat = 1 from rfl] at h35
            refine catM m35.pot (sqt_mv h34 m35) h35 (by show 1 + (oneOf (ws.drop 1)).length ≤ 1000; omega) fun eC H36 m36 hC => ?_
            have bC := bB.snoc (m33.trans (m34.trans (m35.trans m36))) (head hC (.tup (sqt_mv h33 (m34.trans (m35.trans m36))) (DzAll.strs _)) (wordD_no fun z e => nomatch e) fun z e => nomatch e)
            have hρ36 := sqt_mv hρ32 (m33.trans (m34.trans (m35.trans m36)))
            walk_at "st"
            refine ⟨1, rfl, ?_⟩
            walk_at "st"
            refine cutM m36.pot hρ36 fun s37 H37 m37 h37 => ?_
            have ecut : cutV (oneOf ws) none (some (-1)) = oneOf (ws.take (ws.length - 1)) := by
              unfold cutV
              have e1 : HT.sIx (oneOf ws).length (oneOf ws).length (some (-1)) = ws.length - 1 := by
                have e2 : HT.sIx (oneOf ws).length (oneOf ws).length (some (-1)) = ((-1 : Int) + ((oneOf ws).length : Int)).toNat := rfl
                rw [e2, List.length_map]
                omega
              rw [e1, HT.sIx_none, List.drop_zero, Nat.sub_zero]
              exact (List.map_take ..).symm
            rw [ecut] at h37
            walk_at "st"
            refine ⟨by show 1 ≤ sizeLine; decide, fun p38 np38 => ?_⟩
            generalize egp38 : upd H37 p38 _ = H38
            obtain ⟨m38, h38⟩ := at_new (K := K) egp38 np38 m37.pot
            clear egp38
            refine catM m38.pot (sqt_mv h37 m38) h38 (by rw [List.length_map, List.length_take]; show _ + 1 ≤ 1000; omega) fun eD H39 m39 hD => ?_
            have bD := bC.snoc (m37.trans (m38.trans m39)) (Bad.tup hD (DzAll.app (DzAll.strs _) (.cons (.int 0) .nil)) (by
              have lw : ws.length - 1 < pk.length := by omega
              refine wordsD_at (i := ws.length - 1) (List.getElem?_eq_getElem lw) (d := .int 0) ?_ (wordD_no fun z e => nomatch e)
              rw [List.getElem?_append_right (by rw [List.length_map, List.length_take]; omega), List.length_map, List.length_take]
              rw [show ws.length - 1 - min (ws.length - 1) ws.length = 0 by omega]
              rfl) fun z hz => by
                rcases List.mem_append.mp hz with hz | hz
                · rw [List.map_take] at hz
                  exact short z (List.mem_of_mem_take hz)
                · cases List.mem_singleton.mp hz)
            have hρ39 := sqt_mv hρ36 (m37.trans (m38.trans m39))
            have m2539 := m26.trans (m27.trans (m28.trans (m29.trans (m30.trans (m31.trans (m32.trans (m33.trans (m34.trans (m35.trans (m36.trans (m37.trans (m38.trans m39))))))))))))
            walk_at "st"
            refine ⟨by show 4 ≤ sizeLine; decide, fun l40 nl40 => ?_⟩
            generalize egl40 : upd H39 l40 _ = H40
            obtain ⟨m40, _, n40, h40⟩ := at_newL (K := K) egl40 nl40 m39.pot
            clear egl40
            refine catLM m40.pot ((m2539.trans m40).at nsm hsm) h40 (by show 10 + 4 ≤ 1000; decide) fun sm41 H41 m41 _ n41 h41 => ?_
            have b41 := (b11.mv (m2539.trans (m40.trans m41))).app (bD.mv (m40.trans m41))
            have hρ41 := sqt_mv hρ39 (m40.trans m41)
            clear bA bB bC bD hA hB hC hD h27 h28 h30 h31 h33 h34 h35 h37 h38
            walk_at "st"
            refine ⟨by show 1 ≤ sizeLine; decide, fun p42 np42 => ?_⟩
            generalize egp42 : upd H41 p42 _ = H42
            obtain ⟨m42, h42⟩ := at_new (K := K) egp42 np42 m41.pot
            clear egp42
            walk_at "st"
            refine cutM m42.pot (sqt_mv hρ41 m42) fun s43 H43 m43 h43 => ?_
            rw [cut_drop _ (by decide), ← List.map_drop, show (1 : Int).toNat = 1 from rfl] at h43
            refine catM m43.pot (sqt_mv h42 m43) h43 (by show 1 + (oneOf (ws.drop 1)).length ≤ 1000; omega) fun eE H44 m44 hE => ?_
            have bE : Bads K a pk H44 [.ref eE] := fun v hv => by
              rw [List.mem_singleton.mp hv]
              refine head hE (.str _) (wordD_chr (c := 65) (by decide +kernel) fun n => ?_) fun z e => ?_
              · exact absurd (mem0 65 n) (by decide)
              · cases e
                decide +kernel
            have hρ44 := sqt_mv hρ41 (m42.trans (m43.trans m44))
            have cb : (Str.ofString " ").length = 1 := by decide +kernel
            walk_at "st"
            refine itemT (sqt_unhid hρ44) (v := .str z0) ditem ?_
            refine ⟨by rw [cb, sizeLine_eq]; omega, ?_⟩
            walk_at "st"
            refine ⟨by show 1 ≤ sizeLine; decide, fun p45 np45 => ?_⟩
            generalize egp45 : upd H44 p45 _ = H45
            obtain ⟨m45, h45⟩ := at_new (K := K) egp45 np45 m44.pot
            clear egp45
            walk_at "st"
            refine cutM m45.pot (sqt_mv hρ44 m45) fun s46 H46 m46 h46 => ?_
            rw [cut_drop _ (by decide), ← List.map_drop, show (1 : Int).toNat = 1 from rfl] at h46
            refine catM m46.pot (sqt_mv h45 m46) h46 (by show 1 + (oneOf (ws.drop 1)).length ≤ 1000; omega) fun eF H47 m47 hF => ?_
            have bF := bE.snoc (m45.trans (m46.trans m47)) (head hF (.str _) (wordD_chr (c := 32) (by
              rw [PySem.Str.cps_append, Array.toList_append]
              exact List.mem_append_left _ (by decide +kernel)) fun n => absurd (mem0 32 n) (by decide)) fun z e => by
                cases e
                rw [strLen_append, cb]
                omega)
            walk_at "st"
            refine ⟨by show 2 ≤ sizeLine; decide, fun l48 nl48 => ?_⟩
            generalize egl48 : upd H47 l48 _ = H48
            obtain ⟨m48, _, n48, h48⟩ := at_newL (K := K) egl48 nl48 m47.pot
            clear egl48
            have m4148 := m42.trans (m43.trans (m44.trans (m45.trans (m46.trans (m47.trans m48)))))
            refine catLM m48.pot (m4148.at n41 h41) h48 (by show 14 + 2 ≤ 1000; decide) fun sm49 H49 m49 _ n49 h49 => ?_
            have b49 := (b41.mv (m4148.trans m49)).app (bF.mv (m48.trans m49))
            walk_at "st"
            exact hn _ _ ⟨sm49, _, rfl, m2539.trans (m40.trans (m41.trans (m4148.trans m49))), n49, h49, b49, by show 0 < 16; decide, by show 16 ≤ 100; decide⟩
      · rintro σ2 H12 ⟨⟨x4, x5, x6, x7, x8, x9, x10, x11, x12, x13, x14, x15, x16, x17, rfl⟩, m12⟩
        walk_at "st"
        exact k H12 (m011.trans m12)
end
end
end Z
/-! list(zip(xs, ys)), two lists of as many items. -/
namespace Z
open PySem PySem.Spec PyProof.Rows L2 G PySem.W
section
variable {prog : Program} {w : World} {A : Around} {E : Value → Shared → Prop} {R : Result → Shared → Prop} {z TI TO i1 i2 l1 l2 S : Addr} {xs ys : Array Value}
/-- where the zip stands -/
def ZAt (z TI TO i1 i2 l1 l2 : Addr) (xs ys : Array Value) (b0 i : Nat) (h : Heap) : Prop :=
  IsPair h TI (.ref i1) (.ref i2) ∧ h.IsListIter i1 l1 i ∧ h.IsListIter i2 l2 i ∧ h.IsList l1 xs ∧ h.IsList l2 ys ∧ ((IsZip h z TI TO .none ∧ ∃ a b, IsPair h TO a b) ∨ ∃ T f oT, IsZipHeld h z TI TO T f ∧ h.get? T = some oT ∧ b0 ≤ T)
theorem ZAt.at {b0 i : Nat} {h h1 : Heap} (x : ZAt z TI TO i1 i2 l1 l2 xs ys b0 i h) (k : ∀ b o, b ≠ S → h.get? b = some o → h1.get? b = some o) (hS : ∀ b ∈ [z, TI, TO, i1, i2, l1, l2], b ≠ S) (lt : S < b0) : ZAt z TI TO i1 i2 l1 l2 xs ys b0 i h1 := by
  obtain ⟨hTI, h1, h2, hl1, hl2, hz⟩ := x
  have n : ∀ b ∈ [z, TI, TO, i1, i2, l1, l2], ∀ o, h.get? b = some o → _ := fun b hb o e => k b o (hS b hb) e
  refine ⟨n TI (by simp) _ hTI, h1.at fun o e => n i1 (by simp) o e, h2.at fun o e => n i2 (by simp) o e, hl1.at fun o e => n l1 (by simp) o e, hl2.at fun o e => n l2 (by simp) o e, ?_⟩
  rcases hz with ⟨hz, a, b, hTO⟩ | ⟨T, f, oT, hz, hT, r⟩
  · exact .inl ⟨n z (by simp) _ hz, a, b, n TO (by simp) _ hTO⟩
  · exact .inr ⟨T, f, oT, n z (by simp) _ hz, k T _ (fun e => by rw [e] at r; exact absurd r (Nat.not_le_of_lt lt)) hT, r⟩
/-- what has been got so far -/
structure Got (xs ys : Array Value) (b0 i : Nat) (h : Heap) (Ts : List Addr) : Prop where
  len : Ts.length = i
  up : Ts.Pairwise (· < ·)
  in_ : ∀ T ∈ Ts, b0 ≤ T ∧ T < h.objs.size
  at_ : ∀ (j : Nat) (T : Addr) (x y : Value), Ts[j]? = some T → xs[j]? = some x → ys[j]? = some y → IsPair h T x y
theorem zloop (hh : A.handled = none) (D : ZipApart z TI TO i1 i2 l1 l2) (same : xs.size = ys.size) (few : xs.size ≤ 1000) {b0 : Nat} (old : ∀ b ∈ [z, TI, TO, i1, i2, l1, l2], b < b0 ∧ b ≠ S) (lt : S < b0) (res : Value) :
    ∀ (k i : Nat) (s : Shared) (Ts : List Addr) (acc : Array Value) (c : Nat), xs.size - i = k → i ≤ xs.size → ZAt z TI TO i1 i2 l1 l2 xs ys b0 i s.heap → b0 ≤ s.heap.objs.size → s.heap.get? S = some { cls := .type "list", dict := none, data := .seq acc c, slots := #[] } → acc.toList = Ts.map Value.ref → Got xs ys b0 i s.heap Ts →
    (∀ h' Ts' acc' c', (∀ b o, b < b0 → b ∉ [z, TO, i1, i2, S] → s.heap.get? b = some o → h'.get? b = some o) → h'.get? S = some { cls := .type "list", dict := none, data := .seq acc' c', slots := #[] } → acc'.toList = Ts'.map Value.ref → Got xs ys b0 xs.size h' Ts' → R (.ok (.ret res)) { s with heap := h' }) →
    codeAny (model prog w) A (.builtin "list.extend.loop" ⟨[.ref S, .ref z, res], []⟩) R s := by
  have o2 : ∀ b ∈ [z, TI, TO, i1, i2, l1, l2], b ≠ S := fun b hb => (old b hb).2
  intro k
  induction k with
  | zero =>
    intro i s Ts acc c hk hi hst hs hS hacc got hR
    have hin : i = xs.size := by omega
    subst hin
    obtain ⟨hTI, h1, h2, hl1, hl2, hz⟩ := hst
    have hend : xs[xs.size]? = none ∨ ys[xs.size]? = none := .inl (Array.getElem?_eq_none (Nat.le_refl _))
    refine codeAny_builtin PySem.F.entry_extend_loop ?_
    rw [Around.under_plainId PySem.F.plain_extend_loop _]
    show wpAny _ A.in1 (pyNext (.ref z) >>= _) _ _ s
    refine wpAny_bind ?_
    have fin : ∀ h', (∀ c o, c ≠ z → c ≠ TO → c ≠ i1 → c ≠ i2 → s.heap.get? c = some o → h'.get? c = some o) → R (.ok (.ret res)) { s with heap := h' } := fun h' hk => by
      refine hR h' Ts acc c (fun b o _ hb e => ?_) (hk S _ (o2 z (by simp)).symm (o2 TO (by simp)).symm (o2 i1 (by simp)).symm (o2 i2 (by simp)).symm hS) hacc ⟨got.len, got.up, fun T hT => ?_, fun j T x y hj hx hy => ?_⟩
      · simp only [List.mem_cons, List.not_mem_nil, or_false, not_or] at hb
        exact hk b o hb.1 hb.2.1 hb.2.2.1 hb.2.2.2.1 e
      · obtain ⟨j, hj, ej⟩ := List.getElem_of_mem hT
        have lj : j < xs.size := by rw [← got.len]; exact hj
        have p := got.at_ j T xs[j] (ys[j]'(by omega)) (by rw [List.getElem?_eq_getElem hj, ej]) (Array.getElem?_eq_getElem lj) (Array.getElem?_eq_getElem (by omega))
        have g := (got.in_ T hT).1
        have n : ∀ b ∈ [z, TI, TO, i1, i2, l1, l2], T ≠ b := fun b hb e => by
          have h := (old b hb).1
          rw [← e] at h
          exact absurd h (Nat.not_lt_of_le g)
        exact ⟨g, Heap.lt_size (hk T _ (n z (by simp)) (n TO (by simp)) (n i1 (by simp)) (n i2 (by simp)) p)⟩
      · have g := (got.in_ T (List.mem_of_getElem? hj)).1
        have n : ∀ b ∈ [z, TI, TO, i1, i2, l1, l2], T ≠ b := fun b hb e => by
          have h := (old b hb).1
          rw [← e] at h
          exact absurd h (Nat.not_lt_of_le g)
        exact hk T _ (n z (by simp)) (n TO (by simp)) (n i1 (by simp)) (n i2 (by simp)) (got.at_ j T x y hj hx hy)
    rcases hz with ⟨hz, a, b, hTO⟩ | ⟨T, f, oT, hz, hT, _⟩
    · exact wpAny_pyNext_zip_end hh D hz hTI hTO h1 h2 hl1 hl2 hend fun h' hk => wpAny_pure (fin h' hk)
    · exact wpAny_pyNext_zip_end_held hh D hz hT hTI h1 h2 hl1 hl2 hend fun h' hk => wpAny_pure (fin h' fun c o c1 _ c3 c4 e => hk c o c1 c3 c4 e)
  | succ k ih =>
    intro i s Ts acc c hk hi hst hs hS hacc got hR
    have lti : i < xs.size := by omega
    have lti2 : i < ys.size := by omega
    obtain ⟨hTI, h1, h2, hl1, hl2, hz⟩ := hst
    have ex := Array.getElem?_eq_getElem lti
    have ey := Array.getElem?_eq_getElem lti2
    refine codeAny_builtin PySem.F.entry_extend_loop ?_
    rw [Around.under_plainId PySem.F.plain_extend_loop _]
    show wpAny _ A.in1 (pyNext (.ref z) >>= _) _ _ s
    refine wpAny_bind ?_
    have lacc : acc.size = i := by
      have := congrArg List.length hacc
      rw [Array.length_toList, List.length_map, got.len] at this
      exact this
    -- one more
    have turn : ∀ h', ZAt z TI TO i1 i2 l1 l2 xs ys b0 (i + 1) h' → IsPair h' s.heap.objs.size xs[i] ys[i] → h'.objs.size = s.heap.objs.size + 1 → (∀ c o, c ≠ z → c ≠ TO → c ≠ i1 → c ≠ i2 → s.heap.get? c = some o → h'.get? c = some o) →
        wpAny (model prog w) A.in1 (updateSeq S (·.push (.ref s.heap.objs.size)) >>= fun _ => again (.builtin "list.extend.loop" ⟨[.ref S, .ref z, res], []⟩)) (fun fin s' => match fin with | .done f => R (.ok f) s' | .again c' => c'.quiet = true ∧ codeAny (model prog w) A c' R s') (fun e s' => R (.error e) s') { s with heap := h' } := by
      intro h' zat pr sz hk1
      have hS' : h'.get? S = some { cls := .type "list", dict := none, data := .seq acc c, slots := #[] } := hk1 S _ (o2 z (by simp)).symm (o2 TO (by simp)).symm (o2 i1 (by simp)).symm (o2 i2 (by simp)).symm hS
      have SN : S ≠ s.heap.objs.size := Nat.ne_of_lt (Nat.lt_of_lt_of_le lt hs)
      have oth : ∀ b o, b ≠ S → h'.get? b = some o → (h'.update S (Obj.mapSeq (·.push (.ref s.heap.objs.size)))).get? b = some o := fun b o hb e => (Heap.get?_update_other _ _ (Ne.symm hb)).trans e
      refine wpAny_bind ?_
      refine wpAny_updateSeq hS' rfl (wpAny_pure ⟨plainId_quiet PySem.F.plain_extend_loop _, ih (i + 1) _ (Ts ++ [s.heap.objs.size]) (acc.push (.ref s.heap.objs.size)) _ (by omega) (by omega) (zat.at oth o2 lt) ?_ (Heap.get?_update_self _ hS' rfl) ?_ ?_ fun h'' Ts' acc' c' kp hS'' hacc' got' => ?_⟩)
        (by rw [lacc, sizeLine_eq]; omega) (by show (acc.push _).size ≤ sizeLine + 1; rw [Array.size_push, lacc, sizeLine_eq]; omega)
      · show b0 ≤ (h'.update _ _).objs.size
        rw [Heap.size_update, sz]
        omega
      · rw [Array.toList_push, hacc, List.map_append]
        rfl
      · refine ⟨by rw [List.length_append, got.len]; rfl, ?_, fun T hT => ?_, fun j T x y hj hx hy => ?_⟩
        · refine List.pairwise_append.mpr ⟨got.up, List.pairwise_singleton _ _, fun a ha b hb => ?_⟩
          rw [List.mem_singleton.mp hb]
          exact (got.in_ a ha).2
        · show b0 ≤ T ∧ T < (h'.update _ _).objs.size
          rw [Heap.size_update, sz]
          rcases List.mem_append.mp hT with hT | hT
          · exact ⟨(got.in_ T hT).1, Nat.lt_succ_of_lt (got.in_ T hT).2⟩
          · rw [List.mem_singleton.mp hT]
            exact ⟨hs, Nat.lt_succ_self _⟩
        · by_cases cj : j < Ts.length
          · rw [List.getElem?_append_left cj] at hj
            have g := got.in_ T (List.mem_of_getElem? hj)
            have n : ∀ b ∈ [z, TI, TO, i1, i2, l1, l2], T ≠ b := fun b hb e => by
              have h := (old b hb).1
              rw [← e] at h
              exact absurd h (Nat.not_lt_of_le g.1)
            exact oth T _ (fun e => absurd lt (Nat.not_lt_of_le (by rw [← e]; exact g.1))) (hk1 T _ (n z (by simp)) (n TO (by simp)) (n i1 (by simp)) (n i2 (by simp)) (got.at_ j T x y hj hx hy))
          · have lj : j < (Ts ++ [s.heap.objs.size]).length := (List.getElem?_eq_some_iff.mp hj).1
            rw [List.length_append, List.length_singleton] at lj
            have ej : j = i := by have := got.len; omega
            subst ej
            rw [List.getElem?_append_right (by omega), got.len, Nat.sub_self] at hj
            have eT : T = s.heap.objs.size := (Option.some.inj hj).symm
            have e1 : x = xs[j] := Option.some.inj (hx.symm.trans ex)
            have e2 : y = ys[j] := Option.some.inj (hy.symm.trans ey)
            rw [eT, e1, e2]
            exact oth _ _ SN.symm pr
      · refine hR h'' Ts' acc' c' (fun b o hb0 hb e => kp b o hb0 hb ?_) hS'' hacc' got'
        simp only [List.mem_cons, List.not_mem_nil, or_false, not_or] at hb
        exact oth b o hb.2.2.2.2 (hk1 b o hb.1 hb.2.1 hb.2.2.1 hb.2.2.2.1 e)
    rcases hz with ⟨hz, a, b, hTO⟩ | ⟨T, f, oT, hz, hT, rT⟩
    · refine wpAny_pyNext_zip_item D hz hTI hTO h1 h2 hl1 hl2 ex ey fun h' a1 a2 a3 a4 a5 a6 hk => ?_
      exact turn h' ⟨hk _ _ D.TIz D.TITO D.TIi1 D.TIi2 hTI, a3, a4, hl1.at fun o e => hk _ o D.l1z D.l1TO D.l1i1 D.l1i2 e, hl2.at fun o e => hk _ o D.l2z D.l2TO D.l2i1 D.l2i2 e, .inr ⟨s.heap.objs.size, false, _, a1, a5, hs⟩⟩ a5 a6 hk
    · have n : ∀ b ∈ [z, TI, TO, i1, i2, l1, l2], T ≠ b := fun b hb e => by
        have h := (old b hb).1
        rw [← e] at h
        exact absurd h (Nat.not_lt_of_le rT)
      refine wpAny_pyNext_zip_item_held D hz hT hTI h1 h2 hl1 hl2 ex ey fun h' a1 a3 a4 a5 a6 hk => ?_
      exact turn h' ⟨hk _ _ D.TIz D.TIi1 D.TIi2 hTI, a3, a4, hl1.at fun o e => hk _ o D.l1z D.l1i1 D.l1i2 e, hl2.at fun o e => hk _ o D.l2z D.l2i1 D.l2i2 e, .inr ⟨T, true, oT, a1, hk _ _ (n z (by simp)) (n i1 (by simp)) (n i2 (by simp)) hT, rT⟩⟩ a5 a6 fun c o c1 _ c3 c4 e => hk c o c1 c3 c4 e
theorem zip_no_len : typeLookup (.type "zip") "__len__" = pure none := by rw [typeLookup_type, builtinLookup_eq_fast]; kernel_rfl
theorem zip_no_hint : typeLookup (.type "zip") "__length_hint__" = pure none := by rw [typeLookup_type, builtinLookup_eq_fast]; kernel_rfl
theorem zhint {A : Around} {E : Value → Shared → Prop} {s : Shared} {Q : Bool → Shared → Prop} (hT : s.TypeIs (.ref z) "zip") (h : ∀ b, Q b s) : wpAny (model prog w) A (Builtin.List.listLengthHint (.ref z)) Q E s := by
  unfold Builtin.List.listLengthHint
  refine wpAny_bind (wpAny_specialOf hT zip_no_len ?_)
  show wpAny _ A (specialOf (Value.ref z) (Str.ofString "__length_hint__") >>= _) _ _ _
  refine wpAny_bind (wpAny_specialOf hT zip_no_hint ?_)
  exact wpAny_pure (h _)
theorem zextend {s : Shared} (hh : A.handled = none) (D : ZipApart z TI TO i1 i2 l1 l2) (same : xs.size = ys.size) (few : xs.size ≤ 1000) (res : Value) (hTI : IsPair s.heap TI (.ref i1) (.ref i2)) (h1 : s.heap.IsListIter i1 l1 0) (h2 : s.heap.IsListIter i2 l2 0) (hl1 : s.heap.IsList l1 xs) (hl2 : s.heap.IsList l2 ys) (hz : IsZip s.heap z TI TO .none) {a0 b0 : Value} (hTO : IsPair s.heap TO a0 b0)
    (oS : ∀ b ∈ [z, TI, TO, i1, i2, l1, l2], b ≠ S) (c₀ : Nat) (hS : s.heap.get? S = some { cls := .type "list", data := .seq #[] c₀ })
    (hR : ∀ h' Ts' acc' c', (∀ b o, b ∉ [z, TO, i1, i2, S] → s.heap.get? b = some o → h'.get? b = some o) → h'.get? S = some { cls := .type "list", dict := none, data := .seq acc' c', slots := #[] } → acc'.toList = Ts'.map Value.ref → Got xs ys s.heap.objs.size xs.size h' Ts' → R (.ok (.ret res)) { s with heap := h' }) :
    wpAny (model prog w) A.in1 (Builtin.List.listExtendWith (.ref S) (.ref z) res)
      (fun fin s' => match fin with | .done f => R (.ok f) s' | .again c' => c'.quiet = true ∧ codeAny (model prog w) A c' R s') (fun e s' => R (.error e) s') s := by
  have hT : ∀ s : Shared, IsZip s.heap z TI TO .none → s.TypeIs (.ref z) "zip" := fun s hz => ⟨_, hz, rfl⟩
  have old : ∀ b ∈ [z, TI, TO, i1, i2, l1, l2], b < s.heap.objs.size ∧ b ≠ S := fun b hb => by
    refine ⟨?_, oS b hb⟩
    simp only [List.mem_cons, List.not_mem_nil, or_false] at hb
    obtain ⟨_, e1, _⟩ := h1
    obtain ⟨_, e2, _⟩ := h2
    obtain ⟨_, e3, _⟩ := hl1
    obtain ⟨_, e4, _⟩ := hl2
    rcases hb with rfl | rfl | rfl | rfl | rfl | rfl | rfl
    · exact Heap.lt_size hz
    · exact Heap.lt_size hTI
    · exact Heap.lt_size hTO
    · exact Heap.lt_size e1
    · exact Heap.lt_size e2
    · exact Heap.lt_size e3
    · exact Heap.lt_size e4
  have zat : ZAt z TI TO i1 i2 l1 l2 xs ys s.heap.objs.size 0 s.heap := ⟨hTI, h1, h2, hl1, hl2, .inl ⟨hz, a0, b0, hTO⟩⟩
  have key : ∀ (h : Heap) (c : Nat), h.objs.size = s.heap.objs.size → (∀ b o, b ≠ S → s.heap.get? b = some o → h.get? b = some o) → h.get? S = some { cls := .type "list", data := .seq #[] c } →
      codeAny (model prog w) A (.builtin "list.extend.loop" ⟨[.ref S, .ref z, res], []⟩) R { s with heap := h } := by
    intro h c sz hk hS₁
    refine zloop (b0 := s.heap.objs.size) hh D same few old (Heap.lt_size hS) res _ 0 { s with heap := h } [] #[] c rfl (Nat.zero_le _) (zat.at hk oS (Heap.lt_size hS)) (Nat.le_of_eq sz.symm) hS₁ rfl ⟨rfl, List.Pairwise.nil, (fun T hT => nomatch hT), fun j T x y hj => by simp at hj⟩ fun h' Ts' acc' c' kp hS' hacc' got' => ?_
    refine hR h' Ts' acc' c' (fun b o hb e => ?_) hS' hacc' got'
    refine kp b o (Heap.lt_size e) hb (hk b o (fun q => hb (by simp [q])) e)
  unfold Builtin.List.listExtendWith
  refine wpAny_bind (wpAny_typeOf (T := "zip") (hT s hz) ?_)
  have hSz : ¬ S = z := fun e => oS z (by simp) e.symm
  have q1 : Builtin.List.listSameRef (.ref S) (.ref z) = false := by simp [Builtin.List.listSameRef, hSz]
  have q2 : (Value.type "zip" == Value.type "list") = false := by decide
  have q3 : (Value.type "zip" == Value.type "tuple") = false := by decide
  simp only [q1, q2, q3, Bool.or_false, Bool.false_eq_true, if_false]
  refine wpAny_bind (wpAny_pyIter_zip hz ?_)
  refine wpAny_bind (wpAny_holding (zhint (hT s hz) fun b => ?_))
  refine wpAny_ite_split (fun _ => ?_) (fun _ => wpAny_pure ⟨plainId_quiet PySem.F.plain_extend_loop _, key s.heap c₀ rfl (fun b o _ e => e) hS⟩)
  refine wpAny_bind (wpAny_rule ?_)
  refine wpAny_bind ?_
  show wpAny _ _ (updateSeq S (·.push .none) >>= fun _ => updateSeq S (·.pop)) _ _ _
  refine wpAny_bind (wpAny_updateSeq hS rfl ?_)
  have hS₂ := Heap.get?_update_self (Obj.mapSeq (·.push Value.none)) hS rfl
  refine wpAny_updateSeq (hz := by seq_fits) hS₂ rfl ?_
  have hS₃ := Heap.get?_update_self (Obj.mapSeq (·.pop)) hS₂ rfl
  refine wpAny_pure ⟨plainId_quiet PySem.F.plain_extend_loop _, key _ _ ?_ (fun b o hb e => ?_) hS₃⟩
  · rw [Heap.size_update, Heap.size_update]
  · exact (Heap.get?_update_other _ _ (Ne.symm hb)).trans ((Heap.get?_update_other _ _ (Ne.symm hb)).trans e)
theorem zcall {s : Shared} {Q : Value → Shared → Prop} (hh : A.handled = none) (D : ZipApart z TI TO i1 i2 l1 l2) (same : xs.size = ys.size) (few : xs.size ≤ 1000) (hTI : IsPair s.heap TI (.ref i1) (.ref i2)) (h1 : s.heap.IsListIter i1 l1 0) (h2 : s.heap.IsListIter i2 l2 0) (hl1 : s.heap.IsList l1 xs) (hl2 : s.heap.IsList l2 ys) (hz : IsZip s.heap z TI TO .none) {a0 b0 : Value} (hTO : IsPair s.heap TO a0 b0)
    (hQ : ∀ h' Ts' acc' c' b1, s.heap.objs.size < b1 → (∀ b o, b ∉ [z, TO, i1, i2] → s.heap.get? b = some o → h'.get? b = some o) → h'.get? s.heap.objs.size = some { cls := .type "list", dict := none, data := .seq acc' c', slots := #[] } → acc'.toList = Ts'.map Value.ref → Got xs ys b1 xs.size h' Ts' → Q (.ref s.heap.objs.size) { s with heap := h' }) :
    wpAny (model prog w) A (call (.type "list") [.ref z]) Q E s := by
  refine callType_codes (Q₁ := fun obj s₁ => obj = .ref s.heap.objs.size ∧ s₁ = { s with heap := s.heap.push { cls := .type "list", data := .seq #[] } }) PySem.F.called_list (PySem.F.typeCall_list_1 _) PySem.F.entry_list_init
    (code_list_new _ ⟨rfl, rfl⟩) fun obj s₁ h₁ => ?_
  obtain ⟨rfl, rfl⟩ := h₁
  have hS : (s.heap.push { cls := .type "list", data := .seq #[] }).get? s.heap.objs.size = some { cls := .type "list", data := .seq #[] } := Heap.get?_push_size _ rfl
  have kp : ∀ b o, s.heap.get? b = some o → (s.heap.push { cls := .type "list", data := .seq #[] }).get? b = some o := fun b o e => Heap.get?_push_of_some _ e
  have oS : ∀ b ∈ [z, TI, TO, i1, i2, l1, l2], b ≠ s.heap.objs.size := fun b hb => by
    simp only [List.mem_cons, List.not_mem_nil, or_false] at hb
    obtain ⟨_, e1, _⟩ := id h1
    obtain ⟨_, e2, _⟩ := id h2
    obtain ⟨_, e3, _⟩ := id hl1
    obtain ⟨_, e4, _⟩ := id hl2
    rcases hb with rfl | rfl | rfl | rfl | rfl | rfl | rfl
    · exact Nat.ne_of_lt (Heap.lt_size hz)
    · exact Nat.ne_of_lt (Heap.lt_size hTI)
    · exact Nat.ne_of_lt (Heap.lt_size hTO)
    · exact Nat.ne_of_lt (Heap.lt_size e1)
    · exact Nat.ne_of_lt (Heap.lt_size e2)
    · exact Nat.ne_of_lt (Heap.lt_size e3)
    · exact Nat.ne_of_lt (Heap.lt_size e4)
  refine ⟨⟨_, hS, rfl⟩, PySem.F.args_list_init_2 _ _, ?_⟩
  show wpAny _ _ (do let old ← Builtin.List.listItems (.ref s.heap.objs.size); Builtin.List.listUpdate (.ref s.heap.objs.size) (fun _ => #[]); letGo old.toList.reverse; Builtin.List.listExtendWith (.ref s.heap.objs.size) (.ref z) .none) _ _ _
  refine wpAny_bind ?_
  unfold Builtin.List.listItems
  refine wpAny_bind (wpAny_seqItems hS rfl (wpAny_pure ?_))
  show wpAny _ _ (updateSeq s.heap.objs.size (fun _ => #[]) >>= fun _ => letGo (#[] : Array Value).toList.reverse >>= fun _ => Builtin.List.listExtendWith (.ref s.heap.objs.size) (.ref z) .none) _ _ _
  refine wpAny_bind (wpAny_updateSeq hS rfl ?_)
  have hS₂ := Heap.get?_update_self (Obj.mapSeq (fun _ => (#[] : Array Value))) hS rfl
  have oth : ∀ b o, b ≠ s.heap.objs.size → s.heap.get? b = some o → ((s.heap.push { cls := .type "list", data := .seq #[] }).update s.heap.objs.size (Obj.mapSeq (fun _ => (#[] : Array Value)))).get? b = some o :=
    fun b o hb e => (Heap.get?_update_other _ _ (Ne.symm hb)).trans (kp b o e)
  have sz2 : ((s.heap.push { cls := .type "list", data := .seq #[] }).update s.heap.objs.size (Obj.mapSeq (fun _ => (#[] : Array Value)))).objs.size = s.heap.objs.size + 1 := by rw [Heap.size_update, Heap.size_push]
  refine wpAny_bind (wpAny_letGo ?_)
  have n : ∀ b ∈ [z, TI, TO, i1, i2, l1, l2], ∀ o, s.heap.get? b = some o → _ := fun b hb o e => oth b o (oS b hb) e
  obtain ⟨c9, hS₃⟩ : ∃ c9, ((s.heap.push { cls := .type "list", data := .seq #[] }).update s.heap.objs.size (Obj.mapSeq (fun _ => (#[] : Array Value)))).get? s.heap.objs.size = some { cls := .type "list", data := .seq #[] c9 } := ⟨_, hS₂⟩
  refine zextend (A := A.in1) (s := { s with heap := (s.heap.push { cls := .type "list", data := .seq #[] }).update s.heap.objs.size (Obj.mapSeq (fun _ => (#[] : Array Value))) }) hh D same few .none (n TI (by simp) _ hTI) (h1.at fun o e => n i1 (by simp) o e) (h2.at fun o e => n i2 (by simp) o e) (hl1.at fun o e => n l1 (by simp) o e) (hl2.at fun o e => n l2 (by simp) o e) (n z (by simp) _ hz) (n TO (by simp) _ hTO) oS c9 hS₃ fun h' Ts' acc' c' hk hS' hacc got => ?_
  refine ⟨rfl, hQ h' Ts' acc' c' _ (by rw [sz2]; exact Nat.lt_succ_self _) (fun b o hb e => ?_) hS' hacc got⟩
  have lt := Heap.lt_size e
  exact hk b o (fun q => by
    simp only [List.mem_cons, List.not_mem_nil, or_false] at q hb
    rcases q with q | q | q | q | q
    · exact hb (.inl q)
    · exact hb (.inr (.inl q))
    · exact hb (.inr (.inr (.inl q)))
    · exact hb (.inr (.inr (.inr q)))
    · exact absurd q (Nat.ne_of_lt lt)) (oth b o (Nat.ne_of_lt lt) e)
end
theorem vals_refs : ∀ Ts : List Addr, Vals (Ts.map V.ref) (Ts.map Value.ref)
  | [] => .nil
  | T :: Ts => .cons rfl (vals_refs Ts)
theorem vals_at : ∀ {xs : List V} {us : List Value} {j : Nat} {x : V}, Vals xs us → xs[j]? = some x → ∃ u, us[j]? = some u ∧ RelV x u
  | x :: xs, u :: us, 0, y, h, e => by
    cases h with
    | cons a b =>
      have e2 := Option.some.inj e
      subst e2
      exact ⟨u, rfl, a⟩
  | x :: xs, u :: us, j + 1, y, h, e => by
    cases h with
    | cons a b => exact vals_at (j := j) b e
  | [], _, j, y, _, e => by simp at e
  | _ :: _, [], _, _, h, _ => by cases h
/-- list(zip(a, b)) -/
def tListZip (K : PySem.W.Frag) (ta : TA) : TE := fun σ H Q => ta σ H fun vs H1 => ∃ a b xs ys, vs = [.ref a, .ref b] ∧ SqL K H1 a xs ∧ SqL K H1 b ys ∧ xs.length = ys.length ∧ xs.length ≤ 1000 ∧ ∀ (l : Addr) (Ts : List Addr) (H2 : Hp), H1 l = none → (∀ T ∈ Ts, H1 T = none) → Same H1 H2 → H2 l = some (.lst (Ts.map V.ref)) → Ts.length = xs.length →
  (∀ (j : Nat) (T : Addr) (x y : V), Ts[j]? = some T → xs[j]? = some x → ys[j]? = some y → H2 T = some (.tup [x, y])) → Q (.ref l) H2
theorem pe_listZip {X : Cx} {e e2 : Expr} {ta : TA} {p p2 q pos : Pos} (hc : X.calm = true) (hg : Gl X "list") (hm : X.mg "list" = none) (hg2 : Gl X "zip") (hm2 : X.mg "zip" = none) (ha : PA X [e, e2] ta)
    (st : starEach [e, e2] X.env = (false, eval e X.env) :: starEach [e2] X.env := by rfl) (pl : (backTo q (starEach [e2] X.env)).any (·.1) = false := by rfl) : PE X (.Call (.Name "list" p) [.Call (.Name "zip" p2) [e, e2] [] q] [] pos) (tListZip X.K ta) := by
  refine ⟨?_⟩
  intro pins s σ H Q I want
  refine Call_ (ld_blt I hg hm PyProof.Rows.boot_list (PyProof.Rows.callWith_type1 (PyProof.Rows.args_cons ?_ rfl) rfl rfl))
  refine Call_ (ld_blt I hg2 hm2 PyProof.Rows.boot_zip (PyProof.Rows.callWith_type1 (thn (ha.run q pins s σ H _ I want) ?_) st pl))
  rintro us s1 ⟨vs, H1, I1, r1, a, b, xs, ys, rfl, hxa, hyb, same, few, k⟩
  obtain rfl : us = [.ref a, .ref b] := by
    cases r1 with
    | cons x y =>
      cases y with
      | cons x2 y2 =>
        cases y2
        cases x
        cases x2
        rfl
  obtain ⟨its1, rv1, pl1, _⟩ := I1.list hxa
  obtain ⟨its2, rv2, pl2, _⟩ := I1.list hyb
  have z1 := rv1.length
  have z2 := rv2.length
  refine call_zip_2 pl1.isList pl2.isList ?_
  intro h1 hz hTI hTO hi1 hi2 sz keep
  refine PyProof.Rows.args_nil ?_
  have la : a < s1.heap.objs.size := by
    obtain ⟨_, e, _⟩ := pl1.isList
    exact Heap.lt_size e
  have lb : b < s1.heap.objs.size := by
    obtain ⟨_, e, _⟩ := pl2.isList
    exact Heap.lt_size e
  have D : ZipApart (s1.heap.objs.size + 4) (s1.heap.objs.size + 2) (s1.heap.objs.size + 3) s1.heap.objs.size (s1.heap.objs.size + 1) a b := by
    generalize s1.heap.objs.size = n at la lb
    constructor <;> first
      | (intro e; exact absurd (show (_ : Nat) = _ from e) (by omega))
      | (intro e; rw [e] at la; exact absurd la (by show ¬ ((_ : Nat) < _); omega))
      | (intro e; rw [e] at lb; exact absurd lb (by show ¬ ((_ : Nat) < _); omega))
  refine zcall (I1.ok.hd hc) D (by simp only [List.size_toArray]; omega) (by simp only [List.size_toArray]; omega) hTI hi1 hi2 (pl1.isList.at fun o e => keep _ o e) (pl2.isList.at fun o e => keep _ o e) hz hTO ?_
  intro h' Ts acc cc b1 hb1 hk hS hacc got
  show EP X pins σ Q (.ref h1.objs.size) { s1 with heap := h' }
  have stay : ∀ c o, s1.heap.get? c = some o → h'.get? c = some o := fun c o e => by
    have lt := Heap.lt_size e
    refine hk c o (fun q => ?_) (keep c o e)
    simp only [List.mem_cons, List.not_mem_nil, or_false] at q
    rcases q with q | q | q | q <;> (rw [q] at lt; exact absurd lt (by show ¬ ((_ : Nat) < _); omega))
  obtain ⟨l, el⟩ : ∃ l, l = h1.objs.size := ⟨_, rfl⟩
  have hl : s1.heap.objs.size ≤ l := by rw [el, sz]; exact Nat.le_add_right _ 5
  have hb2 : l < b1 := by rw [el]; exact hb1
  rw [← el] at hS ⊢
  have new : ∀ T, s1.heap.objs.size ≤ T → H1 T = none := fun T h => I1.hok.fresh h
  have Tnew : ∀ T ∈ Ts, s1.heap.objs.size ≤ T ∧ T ≠ l := fun T hT => by
    have g := (got.in_ T hT).1
    exact ⟨Nat.le_trans hl (Nat.le_of_lt (Nat.lt_of_lt_of_le hb2 g)), fun e => absurd hb2 (Nat.not_lt_of_le (by rw [← e]; exact g))⟩
  have lT : Ts.length = xs.length := by rw [got.len, List.size_toArray, z1]
  -- the heap behind
  obtain ⟨H2, eH2⟩ : ∃ H2 : Hp, H2 = fun c => if c = l then some (.lst (Ts.map V.ref)) else if c ∈ Ts then some (.tup [xs.getD (Ts.idxOf c) .non, ys.getD (Ts.idxOf c) .non]) else H1 c := ⟨_, rfl⟩
  have at_l : H2 l = some (.lst (Ts.map V.ref)) := by rw [eH2]; exact if_pos rfl
  have at_T : ∀ (j : Nat) (T : Addr) (x y : V), Ts[j]? = some T → xs[j]? = some x → ys[j]? = some y → H2 T = some (.tup [x, y]) := by
    intro j T x y hj hx hy
    have mT := List.mem_of_getElem? hj
    have e1 : H2 T = some (.tup [xs.getD (Ts.idxOf T) .non, ys.getD (Ts.idxOf T) .non]) := by
      rw [eH2]
      show (if T = l then _ else if T ∈ Ts then _ else _) = _
      rw [if_neg (Tnew T mT).2, if_pos mT]
    have nd : Ts.Nodup := got.up.imp fun h => Nat.ne_of_lt h
    obtain ⟨lj, ej⟩ := List.getElem?_eq_some_iff.mp hj
    have ei : Ts.idxOf T = j := by
      have li : Ts.idxOf T < Ts.length := List.idxOf_lt_length_of_mem mT
      have e2 : Ts[Ts.idxOf T] = Ts[j] := by rw [List.getElem_idxOf li, ej]
      exact (List.getElem_inj nd).mp e2
    rw [e1, ei, List.getD_eq_getElem?_getD, List.getD_eq_getElem?_getD, hx, hy]
    rfl
  have at_old : ∀ c o, H1 c = some o → H2 c = some o := by
    intro c o e
    have n1 : c ≠ l := fun q => by
      rw [q, new l hl] at e
      cases e
    have n2 : c ∉ Ts := fun q => by
      rw [new c (Tnew c q).1] at e
      cases e
    rw [eH2]
    show (if c = l then _ else if c ∈ Ts then _ else _) = _
    rw [if_neg n1, if_neg n2]
    exact e
  have none_old : ∀ c, c < s1.heap.objs.size → H1 c = none → H2 c = none := by
    intro c lt e
    have n1 : c ≠ l := fun q => absurd lt (Nat.not_lt_of_le (by rw [q]; exact hl))
    have n2 : c ∉ Ts := fun q => absurd lt (Nat.not_lt_of_le (Tnew c q).1)
    rw [eH2]
    show (if c = l then _ else if c ∈ Ts then _ else _) = _
    rw [if_neg n1, if_neg n2]
    exact e
  have un : Un X.fs [] H1 H2 s1.heap h' :=
    ⟨fun c o e _ _ _ => stay c o e, fun c o e _ _ _ => ⟨o.slots, stay c o e⟩, fun c o e n _ => none_old c (Heap.lt_size e) n, fun c o e _ => ⟨o, stay c o e⟩, fun c u e => at_old c _ e, fun c o u e => at_old c _ e, fun c ps e => ⟨#[], by rw [Array.append_empty]; exact at_old c _ e⟩⟩
  have ok : HOk X.prog X.w H2 h' := by
    intro c o e
    by_cases c1 : c = l
    · rw [c1, at_l] at e
      have eo := Option.some.inj e
      rw [← eo, c1]
      refine ⟨by rw [List.length_map, lT, sizeLine_eq]; omega, acc.toList, cc, ?_, ?_⟩
      · rw [hacc]
        exact vals_refs Ts
      · rw [hS]
    · by_cases c2 : c ∈ Ts
      · obtain ⟨j, hj, ej⟩ := List.getElem_of_mem c2
        have lj1 : j < xs.length := by omega
        have lj2 : j < ys.length := by omega
        have hT : Ts[j]? = some c := by rw [List.getElem?_eq_getElem hj, ej]
        have e1 := at_T j c _ _ hT (List.getElem?_eq_getElem lj1) (List.getElem?_eq_getElem lj2)
        rw [e1] at e
        have eo := Option.some.inj e
        rw [← eo]
        obtain ⟨u1, hu1, ru1⟩ := vals_at rv1 (List.getElem?_eq_getElem lj1)
        obtain ⟨u2, hu2, ru2⟩ := vals_at rv2 (List.getElem?_eq_getElem lj2)
        have pr := got.at_ j c u1 u2 hT (by simpa using hu1) (by simpa using hu2)
        exact ⟨by show 2 ≤ sizeLine; decide, [u1, u2], .cons ru1 (.cons ru2 .nil), ⟨_, pr, rfl, _, rfl⟩⟩
      · have e1 : H2 c = H1 c := by
          rw [eH2]
          show (if c = l then _ else if c ∈ Ts then _ else _) = _
          rw [if_neg c1, if_neg c2]
        rw [e1] at e
        exact (I1.hok c o e).stay (fun b u _ r => stay b u r) (fun b q => at_old b _ q) fun b u q => at_old b _ q
  exact ⟨.ref l, H2, I1.un (t' := s1.toks) un ok, rfl, k l Ts H2 (new l hl) (fun T hT => new T (Tnew T hT).1) (fun c o e => at_old c o e) at_l lT at_T⟩
end Z
local macro_rules | `(tactic| walk_at "st") => `(tactic| repeat (first
  | ((with_reducible refine' Z.s_var ?h ?_); (case h => exact rfl))
  | with_reducible refine Z.s_c ?_
  | with_reducible refine Z.s_op ?_
  | with_reducible refine Z.s_un ?_
  | with_reducible refine Z.s_nil ?_
  | with_reducible refine Z.s_cons ?_
  | with_reducible refine Z.s_cb ?_
  | with_reducible refine Z.s_call ?_
  | with_reducible refine Z.s_tup ?_
  | with_reducible refine Z.s_lst ?_
  | with_reducible refine Z.s_test ?_
  | with_reducible refine Z.s_B ?_
  | with_reducible refine Z.s_and ?_
  | with_reducible refine Z.s_or ?_
  | with_reducible refine Z.s_not ?_
  | with_reducible refine Z.s_andV ?_
  | with_reducible refine Z.s_orV ?_
  | with_reducible refine Z.s_notV ?_
  | with_reducible refine Z.s_if ?_
  | with_reducible refine Z.s_chain ?_
  | with_reducible refine Z.s_seq ?_
  | with_reducible refine Z.s_next ?_
  | with_reducible refine Z.s_drop ?_
  | with_reducible refine Z.s_ret ?_
  | with_reducible refine Z.s_ifS ?_
  | with_reducible refine Z.s_asg ?_
  | with_reducible refine Z.s_name ?_
  | with_reducible refine Z.s_par ?_
  | with_reducible refine Z.s_item ?_
  | with_reducible refine Z.s_part ?_
  | with_reducible refine Z.s_noPart ?_
  | with_reducible refine Z.s_cut ?_
  | with_reducible refine Z.s_bm0 ?_
  | with_reducible refine Z.s_bm ?_
  | with_reducible refine Z.s_bl (P := _) ?_
  | with_reducible refine Z.s_two (P := _) ?_
  | with_reducible refine Z.s_int (P := _) ?_
  | with_reducible refine Z.a_addI ?_
  | with_reducible refine Z.a_subI ?_
  | with_reducible refine Z.a_ltI ?_
  | with_reducible refine Z.a_leI ?_
  | with_reducible refine Z.a_gtI ?_
  | with_reducible refine Z.a_geI ?_
  | with_reducible refine Z.a_eqI ?_
  | with_reducible refine Z.a_neI ?_
  | with_reducible refine Z.a_eqS ?_
  | with_reducible refine Z.a_neS ?_
  | with_reducible refine Z.a_eqB ?_
  | with_reducible refine Z.a_neB ?_
  | with_reducible refine Z.a_isN ?_
  | with_reducible refine Z.a_notN ?_
  | with_reducible refine Z.a_setL ?_
  | with_reducible refine Z.a_int ?_
  | with_reducible refine Z.a_intB ?_
  | with_reducible refine Z.a_abs ?_
  | with_reducible refine Z.a_max ?_
  | with_reducible refine Z.a_min ?_
  | with_reducible refine Z.s_lc ?_
  | with_reducible refine Z.s_for ?_
  | with_reducible refine Z.s_iList ?_
  | with_reducible refine Z.s_iTup ?_
  | with_reducible refine Z.s_iStr ?_
  | with_reducible refine Z.s_rng1 ?_
  | with_reducible refine Z.s_rng2 ?_
  | with_reducible refine Z.s_gtup ?_
  | with_reducible refine Z.s_gcons ?_
  | with_reducible refine Z.s_gnil ?_
  | with_reducible refine Z.s_yes ?_
  | with_reducible refine Z.s_ref (P := _) ?_
  | with_reducible refine Z.s_str (P := _) ?_
  | with_reducible refine Z.s_one (P := _) ?_
  | with_reducible refine Z.s_m1 ?_
  | with_reducible refine Z.s_m0 ?_
  | with_reducible refine Z.s_isStr ?_))
namespace Z
open PySem PySem.Spec PyProof.Rows L2 G
section
variable {P : Program} {w : World} {K : PySem.W.Frag} {mg : Str → Option Value} {base : Heap}
theorem k_listZip {X : Cx} {e e2 : Expr} {ta : TA} {p p2 q pos : Pos} (hc : X.calm = true) (hg : Gl X "list") (hm : X.mg "list" = none) (hg2 : Gl X "zip") (hm2 : X.mg "zip" = none) (ha : PA X [e, e2] ta) (h : X.K = K := by rfl)
    (st : starEach [e, e2] X.env = (false, eval e X.env) :: starEach [e2] X.env := by rfl) (pl : (backTo q (starEach [e2] X.env)).any (·.1) = false := by rfl) : PE X (.Call (.Name "list" p) [.Call (.Name "zip" p2) [e, e2] [] q] [] pos) (tListZip K ta) := by
  subst h
  exact pe_listZip hc hg hm hg2 hm2 ha st pl
theorem s_lz {ta : TA} {σ : L2.St} {H : Hp} {Q : VK} (q : ta σ H fun vs H1 => ∃ a b xs ys, vs = [.ref a, .ref b] ∧ SqL K H1 a xs ∧ SqL K H1 b ys ∧ xs.length = ys.length ∧ xs.length ≤ 1000 ∧ ∀ (l : Addr) (Ts : List Addr) (H2 : Hp), H1 l = none → (∀ T ∈ Ts, H1 T = none) → Same H1 H2 → H2 l = some (.lst (Ts.map V.ref)) → Ts.length = xs.length →
  (∀ (j : Nat) (T : Addr) (x y : V), Ts[j]? = some T → xs[j]? = some x → ys[j]? = some y → H2 T = some (.tup [x, y])) → Q (.ref l) H2) : tListZip K ta σ H Q := q
def rDictP (K : PySem.W.Frag) : List V → Hp → VK → Prop := fun xs H Q => ∃ (a : Addr) (ps : List Addr) (kvs : List (Key × V)), xs = [.ref a] ∧ SqL K H a (ps.map V.ref) ∧ Paired (fun p kv => SqT K H p [kV kv.1, kv.2]) ps kvs ∧ ∀ p, H p = none → Q (.ref p) (upd H p (.dK (mergeK [] kvs)))
theorem k_dictP {X : Cx} (hc : X.calm = true) (h : X.K = K := by rfl) : CallR X (.type "dict") (rDictP K) := by
  subst h
  exact call_dictP hc
theorem perm_of_map {α β : Type} {f : α → β} : ∀ {ys m : List β}, ys.Perm m → ∀ {l : List α}, m = l.map f → ∃ l2 : List α, l2.Perm l ∧ ys = l2.map f := by
  intro ys m p
  induction p with
  | nil =>
    intro l e
    cases l with
    | nil => exact ⟨[], .nil, rfl⟩
    | cons _ _ => cases e
  | cons x _ ih =>
    intro l e
    cases l with
    | nil => cases e
    | cons a l =>
      obtain ⟨h1, h2⟩ := List.cons.inj e
      obtain ⟨l2, p2, e2⟩ := ih h2
      exact ⟨a :: l2, p2.cons a, by rw [h1, e2, List.map_cons]⟩
  | swap x y r =>
    intro l e
    match l, e with
    | a :: b :: l, e =>
      rw [List.map_cons, List.map_cons] at e
      obtain ⟨h1, h2⟩ := List.cons.inj e
      obtain ⟨h3, h4⟩ := List.cons.inj h2
      exact ⟨b :: a :: l, .swap a b l, by rw [h1, h3, h4, List.map_cons, List.map_cons]⟩
    | [_], e => simp at e
    | [], e => simp at e
  | trans _ _ ih1 ih2 =>
    intro l e
    obtain ⟨l2, p2, e2⟩ := ih2 e
    obtain ⟨l3, p3, e3⟩ := ih1 e2
    exact ⟨l3, p3.trans p2, e3⟩
theorem merge_new : ∀ {kvs acc : List (Key × V)}, ((acc ++ kvs).map (·.1)).Nodup → mergeK acc kvs = acc ++ kvs
  | [], acc, _ => by
    rw [List.append_nil]
    rfl
  | p :: kvs, acc, nd => by
    show mergeK (putK acc p.1 p.2) kvs = _
    have np : ∀ q ∈ acc, q.1 ≠ p.1 := by
      intro q hq e
      rw [List.map_append, List.map_cons] at nd
      have := (List.nodup_append.mp nd).2.2 q.1 (List.mem_map.mpr ⟨q, hq, rfl⟩) p.1 List.mem_cons_self
      exact this e
    rw [putK_new np]
    have e : acc ++ [(p.1, p.2)] ++ kvs = acc ++ p :: kvs := by simp
    rw [merge_new (by rw [e]; exact nd), e]
/-- a dict of drawn names, from a shuffled list of pairs -/
theorem newN_of {zs ns : List Str} {prs : List (Str × Str)} (perm : prs.Perm (zs.zip ns)) (same : zs.length = ns.length) (few : zs.length ≤ 6) (nd1 : zs.Nodup) (nd2 : ns.Nodup) (gn : ∀ z ∈ ns, nameB z = true) : NewN (prs.map kvp) zs := by
  have pf : (prs.map (·.1)).Perm zs := by
    have := perm.map (·.1)
    rw [List.map_fst_zip (by omega)] at this
    exact this
  have ps : (prs.map (·.2)).Perm ns := by
    have := perm.map (·.2)
    rw [List.map_snd_zip (by omega)] at this
    exact this
  have ndk : (prs.map (·.1)).Nodup := pf.nodup_iff.mpr nd1
  refine ⟨?_, few, fun z hz => ?_, prs.map (·.2), ?_, ps.nodup_iff.mpr nd2⟩
  · rw [List.length_map, perm.length_eq, List.length_zip]
    omega
  · obtain ⟨p, hp, e⟩ := List.mem_map.mp (pf.mem_iff.mpr hz)
    obtain ⟨j, hj, ej⟩ := List.getElem_of_mem hp
    have at_ : prs[j]? = some (z, p.2) := by
      rw [List.getElem?_eq_getElem hj, ej]
      show some (p.1, p.2) = _
      rw [e]
    have v := valV_at at_ ndk
    have er : rn (prs.map kvp) z = p.2 := by
      unfold rn
      rw [v]
    rw [er]
    exact ⟨v, gn p.2 (ps.mem_iff.mp (List.mem_map.mpr ⟨p, hp, rfl⟩))⟩
  · rw [List.map_map]
    unfold oneOf
    rw [List.map_map]
    rfl
/-- nothing but lists may be hidden -/
def KeepT (H H1 : Hp) : Prop := ∀ b o, H b = some o → (∀ xs, o ≠ .lst xs) → H1 b = some o
theorem keepT_hid {g : Addr} {H : Hp} {xs : List V} (h : H g = some (.lst xs)) : KeepT H (hid g H) := by
  intro b o e n
  have ne : b ≠ g := fun c => by
    rw [c, h] at e
    exact n xs (Option.some.inj e).symm
  rw [hid_ne ne]
  exact e
theorem keepT_pot {a : Addr} {H : Hp} (h : Pot a H) : KeepT H (hid a H) := by
  obtain ⟨_, _, _, e, _⟩ := h
  exact keepT_hid e
theorem KeepT.trans {H H1 H2 : Hp} (k : KeepT H H1) (l : KeepT H1 H2) : KeepT H H2 := fun b o e n => l b o (k b o e n) n
theorem keepT_two {a g : Addr} {H : Hp} {xs : List V} (h : Pot a H) (e : H g = some (.lst xs)) (ne : g ≠ a) : KeepT H (hid g (hid a H)) := (keepT_pot h).trans (keepT_hid (by rw [hid_ne ne]; exact e))
theorem KeepT.sqt {H H1 : Hp} {p : Addr} {xs : List V} (k : KeepT H H1) (h : SqT K H p xs) : SqT K H1 p xs := by
  rcases h with (h | ⟨o, h⟩) | h
  · exact .inl (.inl (k _ _ h fun _ e => nomatch e))
  · exact .inl (.inr ⟨o, k _ _ h fun _ e => nomatch e⟩)
  · exact .inr h
theorem KeepT.prs {H H1 : Hp} (k : KeepT H H1) : ∀ {ps : List (Str × Str)} {xs : List V}, DzAll K H xs (ps.map prD) → DzAll K H1 xs (ps.map prD)
  | [], _, h => by
    cases h
    exact .nil
  | p :: ps, _, h => by
    cases h with
    | cons a b =>
      refine .cons ?_ (KeepT.prs k b)
      cases a with
      | tup s d =>
        cases d with
        | cons d1 d =>
          cases d with
          | cons d2 d =>
            cases d
            cases d1
            cases d2
            exact .tup (k.sqt s) (.cons (.str _) (.cons (.str _) .nil))
theorem KeepT.dz {H H1 : Hp} (k : KeepT H H1) {ps : List (Str × Str)} {v : V} (h : Dz K H v (.tuple (ps.map prD))) : Dz K H1 v (.tuple (ps.map prD)) := by
  cases h with
  | tup s d => exact .tup (k.sqt s) (k.prs d)
theorem KeepT.st {H H1 : Hp} {C a : Addr} {ps qs : List (Str × Str)} (k : KeepT H H1) (h : StAt K C H a ps qs) : StAt K C H1 a ps qs := by
  obtain ⟨dx, v, u, n, m, o, h1, h2, h3, ⟨h4, h5⟩, h6⟩ := h
  exact ⟨dx, v, u, n, m, o, k _ _ h1 (fun _ e => nomatch e), k.dz h2, k.dz h3, ⟨h4, k _ _ h5 (fun _ e => nomatch e)⟩, k _ _ h6 (fun _ e => nomatch e)⟩
/-- what a deed leaves: other streams, and what they are -/
def DeedQ (K : PySem.W.Frag) (C a : Addr) (H : Hp) (Q : VK) : Prop := ∀ H1 p y r2 ps2 qs2, H r2 = none → Mv a H H1 → p ≠ a → H1 p = some (.lst [.ref y, .ref r2]) → StAt K C (hid a H1) y ps2 qs2 → Rec K (hid a H1) r2 ps2 qs2 → Strm ps2 qs2 → Q (.ref p) H1
def spRend (K : PySem.W.Frag) (C : Addr) : Sp := fun vs H Q _ => ∃ a x r ps qs, vs = [.ref a, .ref x, .ref r] ∧ Pot a H ∧ StAt K C (hid a H) x ps qs ∧ Strm ps qs ∧ Rec K (hid a H) r ps qs ∧ DeedQ K C a H Q
abbrev s_law_renamed : Stmt := topS 35
theorem sc_law_renamed : FnScope ["pot", "streams", "record", "names", "fresh", "change", "found", "part", "name", "signs"] ["pot", "streams", "record"] (defScope s_law_renamed) := ⟨rfl, rfl, rfl, by decide +kernel, rfl, by decide +kernel, by decide +kernel⟩
section
variable {f fdip fch fsh fnm ffr fns C frn : Addr} {fd fddip fdch fdsh fdnm fdfr fdns fdrn : FuncData}
theorem ok_lrenamed (T : Txt2 mg) (SC : StrmC K C) (D : Def K mg "_law_renamed" s_law_renamed ["pot", "streams", "record"] f fd) (D_law_dip : Def K mg "_law_dip" s_law_dip ["pot", "total"] fdip fddip) (D_law_choose : Def K mg "_law_choose" s_law_choose ["pot", "items"] fch fdch) (D_law_shuffled : Def K mg "_law_shuffled" s_law_shuffled ["pot", "items"] fsh fdsh)
    (D_law_name : Def K mg "_law_name" s_law_name ["pot"] fnm fdnm) (D_law_free : Def K mg "_law_free" s_law_free ["names"] ffr fdfr) (D_law_names : Def K mg "_law_names" s_law_names ["pot", "many"] fns fdns)
    (Mrenamed : MethAt K C "renamed" "Streams.renamed" sStreams_renamed ["self", "names"] frn fdrn) (Grenamed : FnOk P w K mg base (L2.CX P w) 8 frn fdrn ["self", "names"] (spRen K C)) : FnOk P w K mg base CX0 9 f fd ["pot", "streams", "record"] (spRend K C) := by
  have G_law_choose : FnOk P w K mg base CX0 2 fch fdch ["pot", "items"] (spChoose K) := ok_choose T.toTxt D_law_choose D_law_dip
  have G_law_shuffled : FnOk P w K mg base CX0 2 fsh fdsh ["pot", "items"] (spShuffled K) := ok_shuffled T.toTxt D_law_shuffled D_law_dip
  have G_law_names : FnOk P w K mg base CX0 4 fns fdns ["pot", "many"] spNames := ok_names T.toTxt D_law_names D_law_dip D_law_choose D_law_name D_law_free
  refine D.F.ok sc_law_renamed (fun vs H Q E h => ?_) (fun cdv A outer s H vs Q E hr h => ?_)
  · obtain ⟨a, x, r, ps, qs, rfl, _⟩ := h
    rfl
  · obtain ⟨a, x, r, ps, qs, rfl, pot, st, sg, ⟨t1, t2, hL, dz, dy⟩, k⟩ := h
    have hu := hr.units
    obtain ⟨_, xs1, e1, a1, d1⟩ := dz.tuple
    cases e1
    obtain ⟨_, xs2, e2, a2, d2⟩ := dy.tuple
    cases e2
    have n1 := d1.len
    have n2 := d2.len
    rw [List.length_map] at n1 n2
    have lp := sg.few
    have lq := sg.few2
    have good := strm_good sg
    obtain ⟨zs, ezs⟩ : ∃ zs, zs = (ps ++ qs).map (·.1) := ⟨_, rfl⟩
    have lz : zs.length = ps.length + qs.length := by rw [ezs, List.length_map, List.length_append]
    have ndz : zs.Nodup := by rw [ezs]; exact sg.nd
    have nz : ∀ z ∈ zs, nameB z = true := by
      rw [ezs]
      intro z hz
      obtain ⟨p, hp, rfl⟩ := List.mem_map.mp hz
      exact (good p hp).1
    refine ⟨_, (pss_cons (ps_setLc (i := 3) (own := [("name", 8), ("signs", 9)]) (by rfl) sc_law_renamed.nd rfl rfl (sw_true rfl rfl rfl (by decide +kernel)) (pi_tup (pe_op (Z.k_add (K := K)) (pe_ix (Z.k_item (K := K)) (pv 2) pe_int (fun _ _ => rfl)) (pe_ix (Z.k_item (K := K)) (pv 2) pe_int (fun _ _ => rfl)))) (blkOk_by (own := [("name", 8), ("signs", 9)]) (N := ["pot", "streams", "record", "names", "fresh", "change", "found", "part", "name", "signs"]) (sc := defScope s_law_renamed) (by decide +kernel))
   (fun _ _ _ _ _ => (Z.k_tup (K := K) (n := 2) rfl (pgs_cons (pg_name (i := 8) sc_law_renamed.nd rfl (by first | exact Or.inl rfl | exact Or.inr rfl)) (pgs_cons (pg_name (i := 9) sc_law_renamed.nd rfl (by first | exact Or.inl rfl | exact Or.inr rfl)) pgs_nil)))) (fun _ _ _ _ _ => pts_nil) (fun _ _ _ _ _ => (pv 8)))
 (pss_cons (ps_set (i := 4) sc_law_renamed.nd rfl (by first | exact Or.inl rfl | exact Or.inr rfl) (pe_call G_law_choose (hr.mono (by decide)) (by rfl) D_law_choose.g D_law_choose.F.kp D_law_choose.b .nil pass0 (pa_cons (pv 0) (pa_cons (pe_lst (pa_cons (pe_call G_law_names (hr.mono (by decide)) (by rfl) D_law_names.g D_law_names.F.kp D_law_names.b .nil pass0 (pa_cons (pv 0) (pa_cons (pe_callB (Z.k_len (K := K)) (by rfl) T.len (by decide +kernel) (pa_cons (pv 3) pa_nil)) pa_nil))) (pa_cons (pe_call G_law_shuffled (hr.mono (by decide)) (by rfl) D_law_shuffled.g D_law_shuffled.F.kp D_law_shuffled.b .nil pass0 (pa_cons (pv 0) (pa_cons (pv 3) pa_nil))) pa_nil))) pa_nil))))
 (pss_cons (ps_set (i := 5) sc_law_renamed.nd rfl (by first | exact Or.inl rfl | exact Or.inr rfl) (pe_callTy (Z.k_dictP (K := K) rfl) (by rfl) T.dict (by decide +kernel) (pa_cons (pe_call G_law_shuffled (hr.mono (by decide)) (by rfl) D_law_shuffled.g D_law_shuffled.F.kp D_law_shuffled.b .nil pass0 (pa_cons (pv 0) (pa_cons (Z.k_listZip (K := K) rfl (by rfl) T.list (by rfl) T.zip (pa_cons (pv 3) (pa_cons (pv 4) pa_nil))) pa_nil))) pa_nil)))
 (pss_cons (ps_set (i := 6) sc_law_renamed.nd rfl (by first | exact Or.inl rfl | exact Or.inr rfl) (pe_lst pa_nil))
 (pss_cons (ps_for PassesOwn.never rfl (pi_list (pv 2)) (pg_name (i := 7) sc_law_renamed.nd rfl (by first | exact Or.inl rfl | exact Or.inr rfl))
  (pss_one (ps_expr (Z.k_bm (K := K) PySem.F.plainAttrs_list PySem.F.slot_list_append PySem.F.type_list_append mt_append (pv 6) (pa_cons (pe_callTy (Z.k_tuple (K := K)) (by rfl) T.tuple (by decide +kernel) (pa_cons (pe_lc (own := [("name", 8), ("signs", 9)]) (by rfl) sc_law_renamed.nd (pi_tup (pv 7)) (blkOk_by (own := [("name", 8), ("signs", 9)]) (N := ["pot", "streams", "record", "names", "fresh", "change", "found", "part", "name", "signs"]) (sc := defScope s_law_renamed) (by decide +kernel))
   (fun _ _ _ _ _ => (Z.k_tup (K := K) (n := 2) rfl (pgs_cons (pg_name (i := 8) sc_law_renamed.nd rfl (by first | exact Or.inl rfl | exact Or.inr rfl)) (pgs_cons (pg_name (i := 9) sc_law_renamed.nd rfl (by first | exact Or.inl rfl | exact Or.inr rfl)) pgs_nil)))) (fun _ _ _ _ _ => pts_nil) (fun _ _ _ _ _ => (pe_tup (pa_cons (pe_dget (hu_of hr) (pv 5) (pv 8) (fun _ _ => rfl)) (pa_cons (pv 9) pa_nil))))) pa_nil)) pa_nil)))))
 (pss_one (ps_ret (pe_lst (pa_cons (pe_meth (pv 1) SC.cl Mrenamed.meth Grenamed (hr.mono (by decide)) Mrenamed.b .nil passL (pa_cons (pv 5) pa_nil)) (pa_cons (pv 6) pa_nil)))))))))), ?_⟩
    walk_at "st"
    refine item (sql_unhid hL) (by rfl) ?_
    walk_at "st"
    refine item (sql_unhid hL) (by rfl) ?_
    refine catM pot a1 a2 (by omega) fun p1 H1 m1 sq1 => ?_
    refine ⟨p1, rfl, ⟨_, sqt_unhid sq1⟩, comp_nm (ps := ps ++ qs) (sqt_unhid sq1) (by rw [List.map_append]; exact (d1.mv m1).un.app (d2.mv m1).un) (by rw [List.length_append]; omega) (fun _ _ => rfl) (fun _ _ => rfl) ?_⟩
    intro nm H2 fnm s2 hnm
    rw [← ezs] at hnm
    have m2 := Mv.of_same m1.pot s2
    have m02 := m1.trans m2
    have nma : nm ≠ a := Mv.ne m1.pot (Mv.refl m1.pot) fnm
    walk_at "st"
    refine .inl ⟨_, .inl (SqL.of hnm), ?_⟩
    walk_at "st"
    rw [List.length_map]
    refine ⟨a, _, rfl, m02.pot, by omega, by omega, fun H3 p3 ns1 m3 np3 hp3 many3 nd3 gn3 => ?_⟩
    have hnm3 := m3.at nma hnm
    have pa3 : p3 ≠ a := Mv.ne m02.pot (Mv.refl m02.pot) np3
    walk_at "st"
    refine ⟨a, .ref nm, oneOf zs, rfl, (m02.trans m3).pot, .inl ⟨nm, rfl, Beside.lst nma hnm3⟩, by rw [List.length_map]; omega, fun H4 p4 ys4 m4 np4 hp4 perm4 => ?_⟩
    obtain ⟨ns2, pm2, rfl⟩ := perm_map_inv (g := fun v => match v with | .str z => z | _ => Str.empty) (fun _ => rfl) perm4
    have pa4 : p4 ≠ a := Mv.ne m3.pot (Mv.refl m3.pot) np4
    have m34 := m3.trans m4
    walk_at "st"
    refine ⟨by show 2 ≤ sizeLine; decide, fun l5 nl5 => ?_⟩
    generalize egl5 : upd H4 l5 _ = H5
    obtain ⟨m5, _, n5, h5⟩ := at_newL (K := K) egl5 nl5 m4.pot
    clear egl5
    walk_at "st"
    refine ⟨a, m5.pot, .inl ⟨l5, _, rfl, Beside.lst n5 h5, by show 0 < 2; decide, by show 2 < 1000000; decide, fun H6 v m6 hv => ?_⟩⟩
    have m26 := m34.trans (m5.trans m6)
    have m06 := m02.trans m26
    obtain ⟨fr, ns, rfl, hfr, nfr, nd, gn, same⟩ : ∃ fr ns, v = .ref fr ∧ H6 fr = some (.lst (oneOf ns)) ∧ fr ≠ a ∧ ns.Nodup ∧ (∀ z ∈ ns, nameB z = true) ∧ zs.length = ns.length := by
      simp only [List.mem_cons, List.not_mem_nil, or_false] at hv
      rcases hv with rfl | rfl
      · exact ⟨p3, ns1, rfl, (m4.trans (m5.trans m6)).at pa3 hp3, pa3, nd3, gn3, by omega⟩
      · exact ⟨p4, ns2, rfl, (m5.trans m6).at pa4 hp4, pa4, pm2.nodup_iff.mpr ndz, fun z hz => nz z (pm2.mem_iff.mp hz), pm2.length_eq.symm⟩
    have hnm6 := m26.at nma hnm
    walk_at "st"
    with_reducible refine s_lz ?_
    walk_at "st"
    refine ⟨nm, fr, oneOf zs, oneOf ns, rfl, SqL.of hnm6, SqL.of hfr, by rw [List.length_map, List.length_map]; exact same, by rw [List.length_map]; omega, fun l7 Ts H7 nl7 nT7 s7 hl7 lT hT7 => ?_⟩
    have m7 := Mv.of_same m06.pot s7
    have la7 : l7 ≠ a := Mv.ne m06.pot (Mv.refl m06.pot) nl7
    have Ta : ∀ T ∈ Ts, T ≠ a := fun T hT => Mv.ne m06.pot (Mv.refl m06.pot) (nT7 T hT)
    rw [List.length_map] at lT
    obtain ⟨tr, etr⟩ : ∃ tr : List (Addr × (Str × Str)), tr = Ts.zip (zs.zip ns) := ⟨_, rfl⟩
    have lzn : (zs.zip ns).length = zs.length := by rw [List.length_zip]; omega
    have tr1 : tr.map (·.1) = Ts := by rw [etr, List.map_fst_zip (by omega)]
    have tr2 : tr.map (·.2) = zs.zip ns := by rw [etr, List.map_snd_zip (by omega)]
    have trT : ∀ t ∈ tr, H7 t.1 = some (.tup [.str t.2.1, .str t.2.2]) ∧ t.1 ≠ a := by
      intro t ht
      obtain ⟨j, hj, ej⟩ := List.getElem_of_mem ht
      have ltr : tr.length = Ts.length := by rw [← tr1, List.length_map]
      have lj : j < Ts.length := by omega
      have e1 : Ts[j]? = some t.1 := by
        rw [← tr1, List.getElem?_map, List.getElem?_eq_getElem hj, ej]
        rfl
      have e2 : (zs.zip ns)[j]? = some t.2 := by
        rw [← tr2, List.getElem?_map, List.getElem?_eq_getElem hj, ej]
        rfl
      have e3 : zs[j]? = some t.2.1 := by
        have := List.getElem?_eq_some_iff.mp e2
        obtain ⟨l, e⟩ := this
        rw [List.getElem_zip] at e
        rw [List.getElem?_eq_getElem (by omega), ← e]
      have e4 : ns[j]? = some t.2.2 := by
        have := List.getElem?_eq_some_iff.mp e2
        obtain ⟨l, e⟩ := this
        rw [List.getElem_zip] at e
        rw [List.getElem?_eq_getElem (by omega), ← e]
      refine ⟨hT7 j t.1 (.str t.2.1) (.str t.2.2) e1 ?_ ?_, Ta _ (List.mem_of_getElem? e1)⟩
      · rw [List.getElem?_map, e3]
        rfl
      · rw [List.getElem?_map, e4]
        rfl
    walk_at "st"
    refine ⟨a, .ref l7, Ts.map V.ref, rfl, m7.pot, .inl ⟨l7, rfl, Beside.lst la7 hl7⟩, by rw [List.length_map, lT]; omega, fun H8 p8 ys8 m8 np8 hp8 perm8 => ?_⟩
    rw [← tr1, List.map_map] at perm8
    obtain ⟨tr8, pm8, rfl⟩ := perm_of_map perm8 rfl
    have pmz : (tr8.map (·.2)).Perm (zs.zip ns) := by
      have := pm8.map (·.2)
      rw [tr2] at this
      exact this
    have nw := newN_of pmz same (by omega) ndz nd gn
    have m08 := m06.trans (m7.trans m8)
    walk_at "st"
    refine ⟨p8, tr8.map (·.1), (tr8.map (·.2)).map kvp, rfl, SqL.of (by rw [hp8, List.map_map]), ?_, fun cd ncd => ?_⟩
    · have go : ∀ l : List (Addr × (Str × Str)), (∀ t ∈ l, t ∈ tr) → Paired (fun p (kv : Key × V) => SqT K H8 p [kV kv.1, kv.2]) (l.map (·.1)) ((l.map (·.2)).map kvp) := by
        intro l
        induction l with
        | nil => exact fun _ => .nil
        | cons t l ih =>
          intro h
          obtain ⟨q1, q2⟩ := trT t (h t List.mem_cons_self)
          exact .cons (SqT.of (m8.at q2 q1)) (ih fun u hu => h u (List.mem_cons_of_mem _ hu))
      exact go tr8 fun t ht => pm8.mem_iff.mp ht
    rw [merge_new (by
      have e : (([] : List (Key × V)) ++ (tr8.map (·.2)).map kvp).map (·.1) = ((tr8.map (·.2)).map (·.1)).map Sum.inr := by
        simp only [List.nil_append, List.map_map]
        rfl
      rw [e]
      refine nodup_map_on (fun x _ y _ e => Sum.inr.inj e) ?_
      have := pmz.map (·.1)
      rw [List.map_fst_zip (by omega)] at this
      exact this.nodup_iff.mpr ndz), List.nil_append]
    generalize (tr8.map (·.2)).map kvp = kvs at nw
    generalize e9 : upd H8 cd _ = H9
    have m9 : Mv a H8 H9 := by rw [← e9]; exact (Mv.refl m8.pot).new ncd
    have hcd : H9 cd = some (.dK kvs) := by rw [← e9]; exact upd_same
    have cda : cd ≠ a := Mv.ne m8.pot (Mv.refl m8.pot) ncd
    have m09 := m08.trans m9
    have gk : ∀ q ∈ ps ++ qs, valV kvs (.inr q.1 : Key) = some (.str (rn kvs q.1)) := fun q hq => (nw.at_ q.1 (by rw [ezs]; exact List.mem_map.mpr ⟨q, hq, rfl⟩)).1
    walk_at "st"
    refine ⟨by show 0 ≤ sizeLine; decide, fun fo nfo => ?_⟩
    generalize e10 : upd H9 fo _ = H10
    have m10 : Mv a H9 H10 := by rw [← e10]; exact (Mv.refl m9.pot).new nfo
    have hfo : H10 fo = some (.lst []) := by rw [← e10]; exact upd_same
    have foa : fo ≠ a := Mv.ne m9.pot (Mv.refl m9.pot) nfo
    have m010 := m09.trans m10
    have hcd10 := m10.at cda hcd
    walk_at "st"
    refine ⟨⟨_, sql_unhid (sql_mv hL m010)⟩, loop (walkL (xs := [.ref t1, .ref t2])) (fun i σ2 H2 => (∃ x7 x8 x9, σ2 = [some (.ref a), some (.ref x), some (.ref r), some (.ref nm), some (.ref fr), some (.ref cd), some (.ref fo), x7, x8, x9]) ∧ Mv a H9 H2 ∧ ∃ acc, H2 fo = some (.lst acc) ∧ acc.length = i ∧ ∀ (j : Nat) (v : V) (pk : List (Str × Str)), acc[j]? = some v → [ps, qs][j]? = some pk → Dz K (hid fo (hid a H2)) v (.tuple ((rnP kvs pk).map prD)))
      ⟨⟨_, _, _, rfl⟩, m10, [], hfo, rfl, fun j v pk h => by simp at h⟩ (fun i σ2 H2 h => sql_unhid (sql_mv hL (m09.trans h.2.1))) ?_ ?_⟩
    · rintro i v σ2 H11 hi hv ⟨⟨x7, x8, x9, rfl⟩, m11, acc, hacc, many, rows⟩
      have hi2 : i < 2 := hi
      have m011 := m09.trans m11
      obtain ⟨tk, xk, pk, rfl, epk, hk, dk, lk, gkk⟩ : ∃ tk xk, ∃ pk : List (Str × Str), v = .ref tk ∧ [ps, qs][i]? = some pk ∧ SqT K (hid a H11) tk xk ∧ DzAll K (hid a H11) xk (pk.map prD) ∧ pk.length ≤ 3 ∧ ∀ q ∈ pk, valV kvs (.inr q.1 : Key) = some (.str (rn kvs q.1)) := by
        rcases (show i = 0 ∨ i = 1 by omega) with rfl | rfl
        · exact ⟨t1, xs1, ps, (Option.some.inj hv).symm, rfl, sqt_mv a1 m011, d1.mv m011, lp, fun q hq => gk q (List.mem_append_left _ hq)⟩
        · exact ⟨t2, xs2, qs, (Option.some.inj hv).symm, rfl, sqt_mv a2 m011, d2.mv m011, lq, fun q hq => gk q (List.mem_append_right _ hq)⟩
      walk_at "st"
      refine ⟨.inl ⟨rfl, _, SqL.of hacc⟩, ?_⟩
      walk_at "st"
      refine ⟨⟨_, sqt_unhid hk⟩, comp_rn (kvs := kvs) (ps := pk) (sqt_unhid hk) dk.un (by omega) (m11.at cda hcd) gkk (fun _ _ => rfl) (fun _ _ => rfl) (fun _ _ => rfl) (fun _ _ => rfl) ?_⟩
      intro L12 H12 ys f12 s12 at12 dz12
      have m12 := Mv.of_same m11.pot s12
      walk_at "st"
      refine ⟨_, .inl ⟨SqL.of at12, fun ρ nρ => ?_⟩⟩
      generalize e13 : upd H12 ρ _ = H13
      have m13 : Mv a H12 H13 := by rw [← e13]; exact (Mv.refl m12.pot).new nρ
      have s13 : Same H12 H13 := by rw [← e13]; exact same_new (Same.refl H12) nρ
      have hρ : H13 ρ = some (.tup ys) := by rw [← e13]; exact upd_same
      have hfo12 := s12 _ _ hacc
      have hfo13 := s13 _ _ hfo12
      walk_at "st"
      have m1113 := m12.trans m13
      refine ⟨fo, acc, .ref ρ, rfl, rfl, hfo13, by rw [sizeLine_eq]; omega, ⟨_, _, _, rfl⟩, (m11.trans m1113).upd m9.pot nfo, acc ++ [.ref ρ], upd_same, by rw [List.length_append, many]; rfl, ?_⟩
      intro j v pk2 hj hp
      rw [hid2_upd]
      by_cases c : j < acc.length
      · rw [List.getElem?_append_left c] at hj
        exact Dz.same (same_hidden m1113.same) _ _ (rows j v pk2 hj hp)
      · have lj : j < (acc ++ [V.ref ρ]).length := (List.getElem?_eq_some_iff.mp hj).1
        rw [List.length_append, List.length_singleton] at lj
        have ej : j = i := by omega
        subst ej
        rw [List.getElem?_append_right (by omega), many, Nat.sub_self] at hj
        have ev : v = .ref ρ := (Option.some.inj hj).symm
        have ep : pk2 = pk := Option.some.inj (hp.symm.trans epk)
        rw [ev, ep]
        exact (keepT_two m13.pot hfo13 foa).dz (.tup (SqT.of hρ) (DzAll.same s13 _ _ dz12))
    · rintro σ2 H11 ⟨⟨x7, x8, x9, rfl⟩, m11, acc, hacc, many, rows⟩
      obtain ⟨v1, v2, rfl⟩ : ∃ v1 v2, acc = [v1, v2] := by
        match acc, many with
        | [v1, v2], _ => exact ⟨_, _, rfl⟩
      have q1 := rows 0 v1 ps rfl rfl
      have q2 := rows 1 v2 qs rfl rfl
      have q1 := Dz.same same_hid _ _ q1
      have q2 := Dz.same same_hid _ _ q2
      obtain ⟨r1, _, rfl, _, _⟩ := q1.tuple
      obtain ⟨r2, _, rfl, _, _⟩ := q2.tuple
      have m011 := m09.trans m11
      obtain ⟨dx, _, _, _, _, _, hx, _⟩ := id (st.mv m011).un
      walk_at "st"
      with_reducible refine s_meth ?_
      walk_at "st"
      refine ⟨x, dx, _, rfl, hx, sF_no (by decide +kernel) (by decide +kernel) (by decide +kernel) (by decide +kernel), ?_⟩
      walk_at "st"
      refine ⟨x, cd, ps, qs, kvs, rfl, (st.mv m011).un, sg, m11.at cda hcd, by rw [← ezs]; exact nw, fun H12 y s12 st12 => ?_⟩
      have m12 := Mv.of_same m11.pot s12
      walk_at "st"
      refine ⟨by show 2 ≤ sizeLine; decide, fun out nout => ?_⟩
      generalize egout : upd H12 out _ = H13
      obtain ⟨m13, _, nout, hout⟩ := at_newL (K := K) egout nout m12.pot
      clear egout
      have ok := sg.rn (by rw [← ezs]; exact nw)
      have m1113 := m12.trans m13
      refine k H13 out y fo _ _ (m09.free pot nfo) (m011.trans m1113) nout hout ?_ ⟨r1, r2, SqL.of ?_, q1.mv m1113, q2.mv m1113⟩ ok
      · exact ((keepT_pot m12.pot).st st12).mv m13
      · rw [hid_ne foa]
        exact m1113.at foa hacc
end
end
end Z
/-! In a try whose suite reads the locals: a method's call and an own + whose errors meet the suite at the state of the call. -/
namespace Z
open PySem PySem.Spec PyProof.Rows L2 G
section
variable {X : Cx} {CX : CXT} {n : Nat} {f C : Addr} {fd : FuncData} {ps : List Str} {sp : Sp} {D : L2.St → XK} {p q : Pos} {m : Str} {o a1 : Expr} {rest : List Expr} {to_ t1 t2 : TE} {tas : TA} {plain : Sem Bool}
/-- o.m(..), the errors' wish at the state -/
def tMethAt (C : Addr) (m : Str) (sp : Sp) (D : L2.St → XK) (to_ : TE) (tas : TA) : TE := fun σ H Q =>
  to_ σ H fun v H1 => ∃ b d fields, v = .ref b ∧ H1 b = some (.ins C d fields) ∧ fields.lookup m = none ∧ tas σ H1 fun ws H2 => sp (v :: ws) H2 Q (D σ)
theorem s_methAt {σ : L2.St} {H : Hp} {Q : VK} (h : to_ σ H fun v H1 => ∃ b d fields, v = .ref b ∧ H1 b = some (.ins C d fields) ∧ fields.lookup m = none ∧ tas σ H1 fun ws H2 => sp (v :: ws) H2 Q (D σ)) : tMethAt C m sp D to_ tas σ H Q := h
theorem pe_methAt (hx : ∀ σ, PassesAt CX X σ (D σ)) (cl : Cls X.K C) (mm : Meth X.K C m f) (F : FnOk X.prog X.w X.K X.mg X.base CX n f fd ps sp) (room : Room n X.A) (bd : Binds X.K fd ps []) (ho : PE X o to_) (has : PA X (a1 :: rest) tas)
    (h1 : starEach (a1 :: rest) X.env = (false, eval a1 X.env) :: starEach rest X.env := by rfl) (h2 : (backTo p (starEach rest X.env)).any (·.1) = false := by rfl)
    (h3 : eval (.Call (.Attribute o m q) (a1 :: rest) [] p) X.env = (do
        let at_ ← eval o X.env
        standAt q.atName
        let (g, own) ← holding [at_] (getMethod at_ m plain)
        callWith p g own (backTo p (starEach (a1 :: rest) X.env)) (backToKw p (keywordEach [] X.env))) := by rfl) :
    PE X (.Call (.Attribute o m q) (a1 :: rest) [] p) (tMethAt C m sp D to_ tas) := .mk fun pins s σ H Q inv h => by
  refine PySem.W.methodCall_KW (pl := plain) ?_ h3
  refine thn (ho.run _ _ _ _ _ inv h) ?_
  rintro _ s1 ⟨_, H1, inv1, rv, b, d, fields, rfl, hb, none_, h⟩
  cases rv
  refine getmeth_ok inv1 hb cl mm none_ ?_
  refine PySem.W.callWith_K (h₀ := X.base) (first := [.ref b]) inv.ok.mod.kin mm.kp ?_ h1 h2
  refine thn (has.run p _ _ _ _ _ inv1 h) ?_
  rintro us s2 ⟨ws, H2, inv2, rs, h⟩
  exact ⟨inv2.kIn, run_fnS (vs := .ref b :: ws) (us := .ref b :: us) F room bd (hx σ) inv2 (.cons rfl rs) h⟩
/-- o + p, the errors' wish at the state -/
def tAddAt (C : Addr) (sp : Sp) (D : L2.St → XK) (t1 t2 : TE) : TE := fun σ H Q => t1 σ H fun x H1 => t2 σ H1 fun y H2 => rAddO C sp (D σ) x y H2 Q
theorem s_addAt {σ : L2.St} {H : Hp} {Q : VK} (h : t1 σ H fun x H1 => t2 σ H1 fun y H2 => rAddO C sp (D σ) x y H2 Q) : tAddAt C sp D t1 t2 σ H Q := h
theorem pe_addAt {b1 : Expr} (hx : ∀ σ, PassesAt CX X σ (D σ)) (F : FnOk X.prog X.w X.K X.mg X.base CX n f fd ps sp) (room : Room n X.A) (by_ : AddsBy X.K C f) (bd : Binds X.K fd ps []) (ha : PE X a1 t1) (hb : PE X b1 t2) : PE X (.BinOp a1 .Add b1 p) (tAddAt C sp D t1 t2) := .mk fun pins s σ H Q inv h => by
  refine wpAny_BinOp (binT ha hb inv h ?_)
  rintro v u s2 x y H2 inv2 rx ry ⟨b, c, d1, d2, fs, gs, rfl, rfl, hb2, hc2, h⟩
  cases rx
  cases ry
  obtain ⟨_, J, _⟩ := ins_get inv2.hok hb2
  obtain ⟨_, J, _⟩ := J.look
  obtain ⟨_, J2, _⟩ := ins_get inv2.hok hc2
  obtain ⟨_, J2, _⟩ := J2.look
  refine add_own inv2.kIn J J2 by_ ?_
  refine wpAny_mono (run_fnS (vs := [.ref b, .ref c]) (us := [.ref b, .ref c]) F room bd (hx σ) inv2 (.cons rfl (.cons rfl .nil)) h) ?_ fun _ _ z => z
  rintro r s3 ⟨w, H3, inv3, rw_, h⟩
  exact ⟨rel_not rw_, w, H3, inv3, rw_, h⟩
end
end Z
local macro_rules | `(tactic| walk_at "st") => `(tactic| repeat (first
  | ((with_reducible refine' Z.s_var ?h ?_); (case h => exact rfl))
  | with_reducible refine Z.s_c ?_
  | with_reducible refine Z.s_op ?_
  | with_reducible refine Z.s_un ?_
  | with_reducible refine Z.s_nil ?_
  | with_reducible refine Z.s_cons ?_
  | with_reducible refine Z.s_cb ?_
  | with_reducible refine Z.s_call ?_
  | with_reducible refine Z.s_tup ?_
  | with_reducible refine Z.s_lst ?_
  | with_reducible refine Z.s_test ?_
  | with_reducible refine Z.s_B ?_
  | with_reducible refine Z.s_and ?_
  | with_reducible refine Z.s_or ?_
  | with_reducible refine Z.s_not ?_
  | with_reducible refine Z.s_andV ?_
  | with_reducible refine Z.s_orV ?_
  | with_reducible refine Z.s_notV ?_
  | with_reducible refine Z.s_if ?_
  | with_reducible refine Z.s_chain ?_
  | with_reducible refine Z.s_seq ?_
  | with_reducible refine Z.s_next ?_
  | with_reducible refine Z.s_drop ?_
  | with_reducible refine Z.s_ret ?_
  | with_reducible refine Z.s_ifS ?_
  | with_reducible refine Z.s_asg ?_
  | with_reducible refine Z.s_name ?_
  | with_reducible refine Z.s_par ?_
  | with_reducible refine Z.s_item ?_
  | with_reducible refine Z.s_part ?_
  | with_reducible refine Z.s_noPart ?_
  | with_reducible refine Z.s_cut ?_
  | with_reducible refine Z.s_bm0 ?_
  | with_reducible refine Z.s_bm ?_
  | with_reducible refine Z.s_bl (P := _) ?_
  | with_reducible refine Z.s_two (P := _) ?_
  | with_reducible refine Z.s_int (P := _) ?_
  | with_reducible refine Z.a_addI ?_
  | with_reducible refine Z.a_subI ?_
  | with_reducible refine Z.a_ltI ?_
  | with_reducible refine Z.a_leI ?_
  | with_reducible refine Z.a_gtI ?_
  | with_reducible refine Z.a_geI ?_
  | with_reducible refine Z.a_eqI ?_
  | with_reducible refine Z.a_neI ?_
  | with_reducible refine Z.a_eqS ?_
  | with_reducible refine Z.a_neS ?_
  | with_reducible refine Z.a_eqB ?_
  | with_reducible refine Z.a_neB ?_
  | with_reducible refine Z.a_isN ?_
  | with_reducible refine Z.a_notN ?_
  | with_reducible refine Z.a_setL ?_
  | with_reducible refine Z.a_int ?_
  | with_reducible refine Z.a_intB ?_
  | with_reducible refine Z.a_abs ?_
  | with_reducible refine Z.a_max ?_
  | with_reducible refine Z.a_min ?_
  | with_reducible refine Z.s_lc ?_
  | with_reducible refine Z.s_for ?_
  | with_reducible refine Z.s_iList ?_
  | with_reducible refine Z.s_iTup ?_
  | with_reducible refine Z.s_iStr ?_
  | with_reducible refine Z.s_rng1 ?_
  | with_reducible refine Z.s_rng2 ?_
  | with_reducible refine Z.s_gtup ?_
  | with_reducible refine Z.s_gcons ?_
  | with_reducible refine Z.s_gnil ?_
  | with_reducible refine Z.s_yes ?_
  | with_reducible refine Z.s_ref (P := _) ?_
  | with_reducible refine Z.s_str (P := _) ?_
  | with_reducible refine Z.s_one (P := _) ?_
  | with_reducible refine Z.s_m1 ?_
  | with_reducible refine Z.s_m0 ?_
  | with_reducible refine Z.s_isStr ?_))
local macro_rules | `(tactic| walk_at "it") => `(tactic| repeat (first
  | with_reducible refine Z.s_name ?_
  | with_reducible refine Z.s_next ?_
  | with_reducible refine Z.s_seq ?_
  | with_reducible refine Z.s_asg ?_))
namespace Z
open PySem PySem.Spec PyProof.Rows L2 G
section
variable {P : Program} {w : World} {K : PySem.W.Frag} {mg : Str → Option Value} {base : Heap}
/-- a deed, or none where it is refused as it must be -/
def spDeedN (K : PySem.W.Frag) (C : Addr) : Sp := fun vs H Q _ => ∃ a x r ps qs, vs = [.ref a, .ref x, .ref r] ∧ Pot a H ∧ StAt K C (hid a H) x ps qs ∧ Strm ps qs ∧ Rec K (hid a H) r ps qs ∧ DeedQ K C a H Q ∧ ∀ H1, Mv a H H1 → Q .non H1
theorem dp_nil {H : Hp} {e : Addr} (h : SqT K H e []) : Dp K H (.ref e) (.tuple []) := .tup h .nil
/-- parts beside an empty tuple -/
theorem ne_parts {H : Hp} {Q : VK} {v : V} {e : Addr} {ps : List (Str × Str)} (h : Dz K H v (.tuple (ps.map prD))) (g : SqT K H e []) (hp : GoodP ps) (q : Q (.bl (!decide (ps = []))) H) : Z.rNe K v (.ref e) H Q := by
  obtain ⟨_, _, rfl, a, d⟩ := h.tuple
  refine .inr ⟨_, _, .tup a (dp_parts d), dp_nil g, shaped_parts hp, by decide, ?_⟩
  cases ps with
  | nil => exact q
  | cons p ps => exact q
theorem and_join {ta tb : TE} {σ : L2.St} {H : Hp} {Q : VK} (R : V → Hp → Prop) (rest : ∀ v H2, R v H2 → Q v H2) (q : ∀ Q2 : VK, (∀ v H2, R v H2 → Q2 v H2) → tAndV ta tb σ H Q2) : tAndV ta tb σ H Q := q Q rest
theorem ifx_join {tc : TT} {ta tb : TE} {σ : L2.St} {H : Hp} {Q : VK} (R : V → Hp → Prop) (rest : ∀ v H2, R v H2 → Q v H2) (q : ∀ Q2 : VK, (∀ v H2, R v H2 → Q2 v H2) → tIf tc ta tb σ H Q2) : tIf tc ta tb σ H Q := q Q rest
theorem less_nil {z : Str} {ps : List (Str × Str)} (one : 1 ≤ ps.length) (few : ps.length = 1) (h : z ∈ ps.map (·.1)) : less z ps = [] := by
  match ps, few with
  | [p], _ =>
    obtain ⟨q, hq, e⟩ := List.mem_map.mp h
    rw [List.mem_singleton.mp hq] at e
    unfold less
    simp [e]
theorem less_keeps {z : Str} {ps : List (Str × Str)} (nd : (ps.map (·.1)).Nodup) (h : z ∉ ps.map (·.1) ∨ 2 ≤ ps.length) (one : 1 ≤ ps.length) : less z ps ≠ [] := by
  intro e
  have all : ∀ p ∈ ps, p.1 = z := by
    intro p hp
    by_cases c : p.1 = z
    · exact c
    · have : p ∈ less z ps := List.mem_filter.mpr ⟨hp, decide_eq_true c⟩
      rw [e] at this
      cases this
  match ps, one with
  | [p], _ =>
    rcases h with h | h
    · exact h (List.mem_map.mpr ⟨p, List.mem_cons_self, all p List.mem_cons_self⟩)
    · exact absurd h (by show ¬ 2 ≤ 1; decide)
  | p :: q :: _, _ =>
    have e1 := all p List.mem_cons_self
    have e2 := all q (List.mem_cons_of_mem _ List.mem_cons_self)
    rw [List.map_cons, List.map_cons] at nd
    exact (List.nodup_cons.mp nd).1 (by rw [e1, ← e2]; exact List.mem_cons_self)
/-- a drawn part's name -/
theorem pair_in {H : Hp} {xs : List V} {ps : List (Str × Str)} {v : V} (d : DzAll K H xs (ps.map prD)) (h : v ∈ xs) : ∃ T p, v = .ref T ∧ p ∈ ps ∧ SqT K H T [.str p.1, .str p.2] := by
  obtain ⟨j, hj, e⟩ := List.getElem_of_mem h
  obtain ⟨e1, h1, h2⟩ := d.get (i := j) (v := v) (by rw [List.getElem?_eq_getElem hj, e])
  rw [List.getElem?_map] at h1
  cases c : ps[j]? with
  | none =>
    rw [c] at h1
    cases h1
  | some p =>
    rw [c] at h1
    have ee : e1 = prD p := (Option.some.inj h1).symm
    rw [ee] at h2
    cases h2 with
    | tup s d =>
      cases d with
      | cons d1 d =>
        cases d with
        | cons d2 d =>
          cases d
          cases d1
          cases d2
          exact ⟨_, p, rfl, List.mem_of_getElem? c, s⟩
abbrev s_law_less : Stmt := topS 36
theorem sc_law_less : FnScope ["pot", "streams", "record", "kind", "name", "is_only", "found", "due", "part", "pair"] ["pot", "streams", "record"] (defScope s_law_less) := ⟨rfl, rfl, rfl, by decide +kernel, rfl, by decide +kernel, by decide +kernel⟩
section
variable {f fdip fch C CF fwo : Addr} {fd fddip fdch fdwo : FuncData}
theorem ok_lless (T : Txt2 mg) (SC : StrmC K C) (XInvalidOperation : Err K mg "InvalidOperation" CF) (D : Def K mg "_law_less" s_law_less ["pot", "streams", "record"] f fd) (D_law_dip : Def K mg "_law_dip" s_law_dip ["pot", "total"] fdip fddip) (D_law_choose : Def K mg "_law_choose" s_law_choose ["pot", "items"] fch fdch)
    (Mwithout : MethAt K C "without" "Streams.without" sStreams_without ["self", "name"] fwo fdwo) (Gwithout : FnOk P w K mg base (L2.CX P w) 8 fwo fdwo ["self", "name"] (spLess K C CF)) : FnOk P w K mg base CX0 9 f fd ["pot", "streams", "record"] (spDeedN K C) := by
  have G_law_dip : FnOk P w K mg base CX0 1 fdip fddip ["pot", "total"] spDip := ok_dip T.toTxt D_law_dip
  have G_law_choose : FnOk P w K mg base CX0 2 fch fdch ["pot", "items"] (spChoose K) := ok_choose T.toTxt D_law_choose D_law_dip
  refine D.F.ok sc_law_less (fun vs H Q E h => ?_) (fun cdv A outer s H vs Q E hr h => ?_)
  · obtain ⟨a, x, r, ps, qs, rfl, _⟩ := h
    rfl
  · obtain ⟨a, x, r, ps, qs, rfl, pot, st, sg, ⟨t1, t2, hL, dz, dy⟩, k, kn⟩ := h
    have hu := hr.units
    obtain ⟨_, xs1, e1, a1, d1⟩ := dz.tuple
    cases e1
    obtain ⟨_, xs2, e2, a2, d2⟩ := dy.tuple
    cases e2
    have n1 := d1.len
    have n2 := d2.len
    rw [List.length_map] at n1 n2
    have lp := sg.few
    have lq := sg.few2
    have lo := sg.one
    have good := strm_good sg
    have ndp : (ps.map (·.1)).Nodup := by
      have nd := sg.nd
      rw [List.map_append] at nd
      exact (List.nodup_append.mp nd).1
    refine ⟨_, (pss_cons (ps_set (i := 3) sc_law_less.nd rfl (by first | exact Or.inl rfl | exact Or.inr rfl) (pe_ifExp (pt_cmpR (Z.k_ne (K := K) hu) (pe_ix (Z.k_item (K := K)) (pv 2) pe_int (fun _ _ => rfl)) (pe_tup pa_nil) (nomark _)) (pe_call G_law_dip (hr.mono (by decide)) (by rfl) D_law_dip.g D_law_dip.F.kp D_law_dip.b .nil pass0 (pa_cons (pv 0) (pa_cons pe_int pa_nil))) pe_int))
 (pss_cons (ps_set (i := 4) sc_law_less.nd rfl (by first | exact Or.inl rfl | exact Or.inr rfl) (pe_ix (Z.k_item (K := K)) (pe_call G_law_choose (hr.mono (by decide)) (by rfl) D_law_choose.g D_law_choose.F.kp D_law_choose.b .nil pass0 (pa_cons (pv 0) (pa_cons (pe_ix (Z.k_item (K := K)) (pv 2) (pv 3) (fun _ _ => rfl)) pa_nil))) pe_int (fun _ _ => rfl)))
 (pss_cons (ps_set (i := 5) sc_law_less.nd rfl (by first | exact Or.inl rfl | exact Or.inr rfl) (pe_and (pe_cmpR (Z.k_eq (K := K) hu) (pv 3) pe_int (nomark _)) (pe_one (pe_cmpR (Z.k_eq (K := K) hu) (pe_callB (Z.k_len (K := K)) (by rfl) T.len (by decide +kernel) (pa_cons (pe_ix (Z.k_item (K := K)) (pv 2) pe_int (fun _ _ => rfl)) pa_nil)) pe_int (nomark _)))))
 (pss_cons (ps_try_only rfl rfl ⟨rfl, by decide, .inl (XInvalidOperation).g⟩ takes0 (fun W pn xe tk _ => (pss_one (ps_set (i := 6) sc_law_less.nd rfl (by first | exact Or.inl rfl | exact Or.inr rfl) (Z.pe_methAt (fun σ => passAt tk σ) SC.cl Mwithout.meth Gwithout (hr.mono (by decide)) Mwithout.b (pv 1) (pa_cons (pv 4) pa_nil)))))
  (fun _ _ _ _ _ _ _ => (pss_one (ps_ret (pe_ifExp (pt_val (pv 5)) pe_non (pe_lst (pa_cons (pv 1) (pa_cons (pe_lst pa_nil) pa_nil))))))))
 (pss_cons (ps_setLc (i := 7) (own := [("part", 8)]) (by rfl) sc_law_less.nd rfl rfl (sw_true rfl rfl rfl (by decide +kernel)) (pi_list (pv 2)) (blkOk_by (own := [("part", 8)]) (N := ["pot", "streams", "record", "kind", "name", "is_only", "found", "due", "part", "pair"]) (sc := defScope s_law_less) (by decide +kernel))
   (fun _ _ _ _ _ => (pg_name (i := 8) sc_law_less.nd rfl (by first | exact Or.inl rfl | exact Or.inr rfl))) (fun _ _ _ _ _ => pts_nil) (fun _ _ _ _ _ => (pe_callTy (Z.k_tuple (K := K)) (by rfl) T.tuple (by decide +kernel) (pa_cons (pe_lc (own := [("pair", 9)]) (by rfl) sc_law_less.nd (Z.k_pitup (K := K) (pv 8)) (blkOk_re (blkOk_by (own := [("pair", 9)]) (N := ["pot", "streams", "record", "kind", "name", "is_only", "found", "due", "part", "pair"]) (sc := firstScope s_law_less 4) (by decide +kernel)))
   (fun _ _ _ _ _ => (pg_name (i := 9) sc_law_less.nd rfl (by first | exact Or.inl rfl | exact Or.inr rfl))) (fun _ _ _ _ _ => pts_one (pt_cmpR (Z.k_ne (K := K) hu) (pe_ix (Z.k_item (K := K)) (pv 9) pe_int (fun _ _ => rfl)) (pv 4) (nomark _))) (fun _ _ _ _ _ => (pv 9))) pa_nil))))
 (pss_one (ps_ret (pe_ifExp (pt_val (pv 5)) (pe_lst (pa_cons (pv 1) (pa_cons (pe_lst pa_nil) pa_nil))) (pe_lst (pa_cons (pv 6) (pa_cons (pv 7) pa_nil))))))))))), ?_⟩
    walk_at "it"
    with_reducible refine ifx_join (fun v H1 => ∃ i : Int, v = .int i ∧ Mv a H H1 ∧ (i = 0 ∨ i = 1 ∧ qs ≠ [])) ?_ ?_
    rotate_left
    · intro Q2 post
      walk_at "st"
      refine item (sql_unhid hL) (by rfl) ?_
      refine ⟨by show 0 ≤ sizeLine; decide, fun e1 ne1 => ?_⟩
      generalize ege1 : upd H e1 _ = H1
      obtain ⟨m1, h1⟩ := at_new (K := K) ege1 ne1 pot
      clear ege1
      refine ne_parts (.tup (sqt_unhid (sqt_mv a2 m1)) (d2.mv m1).un) (sqt_unhid h1) sg.good2 ?_
      refine s_bl (P := _) ?_
      by_cases c : qs = []
      · rw [decide_eq_true c]
        refine iteF ?_
        walk_at "st"
        exact post _ _ ⟨0, rfl, m1, .inl rfl⟩
      · rw [decide_eq_false c]
        refine iteT ?_
        walk_at "st"
        refine ⟨a, 2, rfl, m1.pot, by decide, by decide, fun H2 r2 m2 r20 r21 => ?_⟩
        exact post _ _ ⟨r2, rfl, m1.trans m2, by
          rcases (show r2 = 0 ∨ r2 = 1 by omega) with e | e
          · exact .inl e
          · exact .inr ⟨e, c⟩⟩
    rintro _ H1 ⟨kd, rfl, m1, kind⟩
    obtain ⟨tk, xk, pk, hit, hk, dk, gk⟩ : ∃ tk xk, ∃ pk : List (Str × Str), atI [V.ref t1, V.ref t2] kd = some (.ref tk) ∧ SqT K (hid a H1) tk xk ∧ DzAll K (hid a H1) xk (pk.map prD) ∧ 0 < pk.length ∧ pk.length ≤ 3 ∧ ((kd = 0 ∧ pk = ps) ∨ (kd = 1 ∧ pk = qs)) := by
      rcases kind with rfl | ⟨rfl, c⟩
      · exact ⟨t1, xs1, ps, rfl, sqt_mv a1 m1, d1.mv m1, lo, lp, .inl ⟨rfl, rfl⟩⟩
      · exact ⟨t2, xs2, qs, rfl, sqt_mv a2 m1, d2.mv m1, List.length_pos_iff.mpr c, lq, .inr ⟨rfl, rfl⟩⟩
    have nk := dk.len
    rw [List.length_map] at nk
    walk_at "st"
    refine item (sql_unhid (sql_mv hL m1)) hit ?_
    refine ⟨a, m1.pot, .inl ⟨tk, xk, rfl, .inr hk, by omega, by omega, fun H2 v m2 hv => ?_⟩⟩
    obtain ⟨T, p, rfl, hp, hT⟩ := pair_in (dk.mv m2) hv
    have m02 := m1.trans m2
    walk_at "st"
    refine itemT (sqt_unhid hT) (by rfl) ?_
    obtain ⟨z, y⟩ := p
    walk_at "it"
    with_reducible refine and_join (fun v H3 => v = .bl (decide (less z ps = [])) ∧ H3 = H2) ?_ ?_
    rotate_left
    · intro Q2 post
      walk_at "st"
      by_cases c0 : kd = 0
      · rw [decide_eq_true c0]
        refine iteT ?_
        have epk : pk = ps := by
          rcases gk.2.2 with ⟨_, e⟩ | ⟨e, _⟩
          · exact e
          · omega
        walk_at "st"
        refine item (sql_unhid (sql_mv hL m02)) (by rfl) ?_
        walk_at "st"
        refine .inl ⟨_, .inr (sqt_unhid (sqt_mv a1 m02)), ?_⟩
        walk_at "st"
        refine post _ _ ⟨congrArg V.bl ?_, rfl⟩
        rw [epk] at hp
        have hz : z ∈ ps.map (·.1) := List.mem_map.mpr ⟨_, hp, rfl⟩
        by_cases c : ps.length = 1
        · rw [decide_eq_true (less_nil lo c hz), decide_eq_true (by omega)]
        · rw [decide_eq_false (less_keeps ndp (.inr (by omega)) lo), decide_eq_false (by omega)]
      · rw [decide_eq_false c0]
        refine iteF ?_
        refine post _ _ ⟨congrArg V.bl ?_, rfl⟩
        have epk : pk = qs := by
          rcases gk.2.2 with ⟨e, _⟩ | ⟨_, e⟩
          · exact absurd e c0
          · exact e
        rw [epk] at hp
        rw [decide_eq_false]
        refine less_keeps ndp (.inl fun hz => ?_) lo
        have nd := sg.nd
        rw [List.map_append] at nd
        exact (List.nodup_append.mp nd).2.2 z hz z (List.mem_map.mpr ⟨_, hp, rfl⟩) rfl
    rintro _ _ ⟨rfl, rfl⟩
    have hin : (z, y) ∈ ps ++ qs := by
      rcases gk.2.2 with ⟨_, e⟩ | ⟨_, e⟩
      · rw [e] at hp
        exact List.mem_append_left _ hp
      · rw [e] at hp
        exact List.mem_append_right _ hp
    obtain ⟨j, hj, ej⟩ := List.getElem_of_mem hin
    have na : NameAt ps qs j z y := strm_name sg (by rw [List.getElem?_eq_getElem hj, ej])
    walk_at "st"
    with_reducible refine s_methAt ?_
    walk_at "st"
    obtain ⟨dx, _, _, _, _, _, hx, _⟩ := id (st.mv m02).un
    refine ⟨x, dx, _, rfl, hx, sF_no (by decide +kernel) (by decide +kernel) (by decide +kernel) (by decide +kernel), ?_⟩
    walk_at "st"
    refine ⟨x, ps, qs, j, z, y, rfl, (st.mv m02).un, sg, na, fun ne H3 q s3 st3 => ?_, fun e H3 s3 => ?_⟩
    rotate_left
    · refine ⟨true, XInvalidOperation.e, fun _ b nb => ?_, fun q => Bool.noConfusion q⟩
      walk_at "st"
      rw [decide_eq_true e]
      refine iteT ?_
      walk_at "st"
      exact kn H3 (m02.trans (Mv.of_same m02.pot s3))
    have m3 := Mv.of_same m02.pot s3
    have m03 := m02.trans m3
    have st3' := (keepT_pot m3.pot).st st3
    walk_at "st"
    refine ⟨⟨_, sql_unhid (sql_mv hL m03)⟩, comp2 (walkL (xs := [.ref t1, .ref t2])) (Mv a H3) (fun L i acc H4 => acc.length = i ∧ ∀ (j : Nat) (v : V) (pk : List (Str × Str)), acc[j]? = some v → [ps, qs][j]? = some pk → Dz K (hid L (hid a H4)) v (.tuple ((less z pk).map prD))) (Mv.refl m03.pot) (fun L o H2 e m => m.upd m03.pot e) ?_ ?_ (fun H2 m => sql_unhid (sql_mv hL (m03.trans m))) ?_ ?_⟩
    · rintro L o i acc H4 e m ⟨h1, h2⟩
      refine ⟨h1, fun j v pk hj hp => ?_⟩
      rw [hid2_upd]
      exact h2 j v pk hj hp
    · exact fun L _ => ⟨rfl, fun j v pk h => by simp at h⟩
    · rintro L i acc v H4 fresh hi hv len m4 at_ ⟨many, rows⟩
      have hi2 : i < 2 := hi
      have m04 := m03.trans m4
      have La : L ≠ a := Mv.ne m03.pot (Mv.refl m03.pot) fresh
      obtain ⟨ti, xi, pi, rfl, epi, hti, dti, li⟩ : ∃ ti xi, ∃ pi : List (Str × Str), v = .ref ti ∧ [ps, qs][i]? = some pi ∧ SqT K (hid a H4) ti xi ∧ DzAll K (hid a H4) xi (pi.map prD) ∧ pi.length ≤ 3 := by
        rcases (show i = 0 ∨ i = 1 by omega) with rfl | rfl
        · exact ⟨t1, xs1, ps, (Option.some.inj hv).symm, rfl, sqt_mv a1 m04, d1.mv m04, lp⟩
        · exact ⟨t2, xs2, qs, (Option.some.inj hv).symm, rfl, sqt_mv a2 m04, d2.mv m04, lq⟩
      refine turn1 rfl ?_
      walk_at "st"
      refine ⟨⟨_, sqt_unhid hti⟩, comp_less (z := z) (ps := pi) (sqt_unhid hti) dti.un (by omega) (fun _ => rfl) (fun _ => rfl) (fun _ => rfl) ?_⟩
      intro L5 H5 ys f5 s5 at5 dz5
      have m5 := Mv.of_same m4.pot s5
      walk_at "st"
      refine ⟨_, .inl ⟨SqL.of at5, fun ρ nρ => ?_⟩⟩
      generalize e6 : upd H5 ρ _ = H6
      have m6 : Mv a H5 H6 := by rw [← e6]; exact (Mv.refl m5.pot).new nρ
      have s6 : Same H5 H6 := by rw [← e6]; exact same_new (Same.refl H5) nρ
      have hρ : H6 ρ = some (.tup ys) := by rw [← e6]; exact upd_same
      have at6 := s6 _ _ (s5 _ _ at_)
      have m46 := m5.trans m6
      refine put2 (acc := acc) (fun o H7 m => m.upd m03.pot fresh) ?_ at6 (by omega) len (m4.trans m46) ⟨by rw [List.length_append, many]; rfl, ?_⟩
      · rintro o i acc H7 m ⟨h1, h2⟩
        refine ⟨h1, fun j v pk hj hp => ?_⟩
        rw [hid2_upd]
        exact h2 j v pk hj hp
      · intro j v pk2 hj hp
        by_cases c : j < acc.length
        · rw [List.getElem?_append_left c] at hj
          exact Dz.same (same_hidden m46.same) _ _ (rows j v pk2 hj hp)
        · have lj : j < (acc ++ [V.ref ρ]).length := (List.getElem?_eq_some_iff.mp hj).1
          rw [List.length_append, List.length_singleton] at lj
          have ej : j = i := by omega
          subst ej
          rw [List.getElem?_append_right (by omega), many, Nat.sub_self] at hj
          have ev : v = .ref ρ := (Option.some.inj hj).symm
          have ep : pk2 = pi := Option.some.inj (hp.symm.trans epi)
          rw [ev, ep]
          exact (keepT_two m6.pot at6 La).dz (.tup (SqT.of hρ) (DzAll.same s6 _ _ dz5))
    · rintro L acc H4 fresh len m4 at_ ⟨many, rows⟩
      obtain ⟨v1, v2, rfl⟩ : ∃ v1 v2, acc = [v1, v2] := by
        match acc, many with
        | [v1, v2], _ => exact ⟨_, _, rfl⟩
      have q1 := Dz.same same_hid _ _ (rows 0 v1 ps rfl rfl)
      have q2 := Dz.same same_hid _ _ (rows 1 v2 qs rfl rfl)
      obtain ⟨r1, _, rfl, _, _⟩ := q1.tuple
      obtain ⟨r2, _, rfl, _, _⟩ := q2.tuple
      have La : L ≠ a := Mv.ne m03.pot (Mv.refl m03.pot) fresh
      have m04 := m03.trans m4
      walk_at "st"
      rw [decide_eq_false ne]
      refine iteF ?_
      walk_at "st"
      refine ⟨by show 2 ≤ sizeLine; decide, fun out nout => ?_⟩
      generalize egout : upd H4 out _ = H5
      obtain ⟨m5, _, nout, hout⟩ := at_newL (K := K) egout nout m4.pot
      clear egout
      have m05 := m04.trans m5
      exact k H5 out q L _ _ (m03.free pot fresh) m05 nout hout (st3'.mv (m4.trans m5)) ⟨r1, r2, SqL.of (by rw [hid_ne La]; exact m5.at La at_), q1.mv m5, q2.mv m5⟩ (sg.less ne)
end
end
end Z
local macro_rules | `(tactic| walk_at "st") => `(tactic| repeat (first
  | ((with_reducible refine' Z.s_var ?h ?_); (case h => exact rfl))
  | with_reducible refine Z.s_c ?_
  | with_reducible refine Z.s_op ?_
  | with_reducible refine Z.s_un ?_
  | with_reducible refine Z.s_nil ?_
  | with_reducible refine Z.s_cons ?_
  | with_reducible refine Z.s_cb ?_
  | with_reducible refine Z.s_call ?_
  | with_reducible refine Z.s_tup ?_
  | with_reducible refine Z.s_lst ?_
  | with_reducible refine Z.s_test ?_
  | with_reducible refine Z.s_B ?_
  | with_reducible refine Z.s_and ?_
  | with_reducible refine Z.s_or ?_
  | with_reducible refine Z.s_not ?_
  | with_reducible refine Z.s_andV ?_
  | with_reducible refine Z.s_orV ?_
  | with_reducible refine Z.s_notV ?_
  | with_reducible refine Z.s_if ?_
  | with_reducible refine Z.s_chain ?_
  | with_reducible refine Z.s_seq ?_
  | with_reducible refine Z.s_next ?_
  | with_reducible refine Z.s_drop ?_
  | with_reducible refine Z.s_ret ?_
  | with_reducible refine Z.s_ifS ?_
  | with_reducible refine Z.s_asg ?_
  | with_reducible refine Z.s_name ?_
  | with_reducible refine Z.s_par ?_
  | with_reducible refine Z.s_item ?_
  | with_reducible refine Z.s_part ?_
  | with_reducible refine Z.s_noPart ?_
  | with_reducible refine Z.s_cut ?_
  | with_reducible refine Z.s_bm0 ?_
  | with_reducible refine Z.s_bm ?_
  | with_reducible refine Z.s_bl (P := _) ?_
  | with_reducible refine Z.s_two (P := _) ?_
  | with_reducible refine Z.s_int (P := _) ?_
  | with_reducible refine Z.a_addI ?_
  | with_reducible refine Z.a_subI ?_
  | with_reducible refine Z.a_ltI ?_
  | with_reducible refine Z.a_leI ?_
  | with_reducible refine Z.a_gtI ?_
  | with_reducible refine Z.a_geI ?_
  | with_reducible refine Z.a_eqI ?_
  | with_reducible refine Z.a_neI ?_
  | with_reducible refine Z.a_eqS ?_
  | with_reducible refine Z.a_neS ?_
  | with_reducible refine Z.a_eqB ?_
  | with_reducible refine Z.a_neB ?_
  | with_reducible refine Z.a_isN ?_
  | with_reducible refine Z.a_notN ?_
  | with_reducible refine Z.a_setL ?_
  | with_reducible refine Z.a_int ?_
  | with_reducible refine Z.a_intB ?_
  | with_reducible refine Z.a_abs ?_
  | with_reducible refine Z.a_max ?_
  | with_reducible refine Z.a_min ?_
  | with_reducible refine Z.s_lc ?_
  | with_reducible refine Z.s_for ?_
  | with_reducible refine Z.s_iList ?_
  | with_reducible refine Z.s_iTup ?_
  | with_reducible refine Z.s_iStr ?_
  | with_reducible refine Z.s_rng1 ?_
  | with_reducible refine Z.s_rng2 ?_
  | with_reducible refine Z.s_gtup ?_
  | with_reducible refine Z.s_gcons ?_
  | with_reducible refine Z.s_gnil ?_
  | with_reducible refine Z.s_yes ?_
  | with_reducible refine Z.s_ref (P := _) ?_
  | with_reducible refine Z.s_str (P := _) ?_
  | with_reducible refine Z.s_one (P := _) ?_
  | with_reducible refine Z.s_m1 ?_
  | with_reducible refine Z.s_m0 ?_
  | with_reducible refine Z.s_isStr ?_))
local macro_rules | `(tactic| walk_at "it") => `(tactic| repeat (first
  | with_reducible refine Z.s_name ?_
  | with_reducible refine Z.s_next ?_
  | with_reducible refine Z.s_seq ?_
  | with_reducible refine Z.s_asg ?_))
namespace Z
open PySem PySem.Spec PyProof.Rows L2 G
section
variable {P : Program} {w : World} {K : PySem.W.Frag} {mg : Str → Option Value} {base : Heap}
theorem good_app {ps qs : List (Str × Str)} (h : GoodP ps) (g : GoodP qs) : GoodP (ps ++ qs) := fun p hp => (List.mem_append.mp hp).elim (h p) (g p)
theorem wt_six {ps : List (Str × Str)} (g : GoodP ps) (few : ps.length ≤ 6) : wt (.tuple (ps.map prD)) ≤ 10000000 := by
  have each : ∀ d ∈ ps.map prD, wt d ≤ 1000 := by
    intro d hd
    obtain ⟨p, hp, rfl⟩ := List.mem_map.mp hd
    obtain ⟨a, b⟩ := small_pair (g p hp)
    simp only [wt, wtAll]
    omega
  have sum : ∀ ds : List PyData, (∀ d ∈ ds, wt d ≤ 1000) → wtAll ds ≤ ds.length * 1002 := by
    intro ds
    induction ds with
    | nil =>
      intro _
      simp only [wtAll]
      exact Nat.zero_le _
    | cons d ds ih =>
      intro h
      have a := h d List.mem_cons_self
      have b := ih fun e he => h e (List.mem_cons_of_mem _ he)
      simp only [wtAll, List.length_cons]
      omega
  have := sum _ each
  rw [List.length_map] at this
  simp only [wt]
  omega
theorem Parts.strm {n : Int} {ps qs : List (Str × Str)} (h : Parts n ps qs) (few : n ≤ 3) : Strm ps qs where
  one := h.one
  few := by
    have := h.few
    omega
  few2 := by
    have := h.few2
    omega
  nd := h.nd
  good := fun p hp => ⟨h.name p (List.mem_append_left _ hp), h.sig p (List.mem_append_left _ hp)⟩
  good2 := fun p hp => ⟨h.name p (List.mem_append_right _ hp), h.sig p (List.mem_append_right _ hp)⟩
theorem deep_parts : ∀ ps : List (Str × Str), PyData.depthAll (ps.map prD) ≤ 1
  | [] => by
    simp only [List.map_nil, PyData.depthAll]
    exact Nat.zero_le _
  | p :: ps => by
    simp only [List.map_cons, PyData.depthAll, PyData.depth]
    exact Nat.max_le.mpr ⟨by decide, deep_parts ps⟩
theorem shaped_two {ps qs : List (Str × Str)} (h : GoodP ps) (g : GoodP qs) : SeqAt.shaped (.list [.tuple (ps.map prD), .tuple (qs.map prD)]) = true := by
  have a := shaped_parts h
  have b := shaped_parts g
  have c := deep_parts ps
  have d := deep_parts qs
  unfold SeqAt.shaped at a b ⊢
  rw [Bool.and_eq_true] at a b ⊢
  refine ⟨?_, decide_eq_true ?_⟩
  · have a1 := a.1
    have b1 := b.1
    simp only [PyData.canLay0, PyData.canLayAll0, Bool.and_eq_true, Bool.and_true] at a1 b1 ⊢
    exact ⟨a1, b1⟩
  · simp only [PyData.depth, PyData.depthAll]
    omega
theorem eq_recs {H : Hp} {Q : VK} {o r : Addr} {pa qa ps qs : List (Str × Str)} (h : Rec K H o pa qa) (g : Rec K H r ps qs) (ga : GoodP pa) (gb : GoodP qa) (gc : GoodP ps) (gd : GoodP qs) (q : Q (.bl (decide (pa = ps ∧ qa = qs))) H) : Z.rEq K (.ref o) (.ref r) H Q := by
  obtain ⟨a1, a2, h1, h2, h3⟩ := h
  obtain ⟨b1, b2, g1, g2, g3⟩ := g
  obtain ⟨_, _, e1, x1, y1⟩ := h2.tuple
  cases e1
  obtain ⟨_, _, e1, x2, y2⟩ := h3.tuple
  cases e1
  obtain ⟨_, _, e1, x3, y3⟩ := g2.tuple
  cases e1
  obtain ⟨_, _, e1, x4, y4⟩ := g3.tuple
  cases e1
  refine .inr ⟨.list [.tuple (pa.map prD), .tuple (qa.map prD)], .list [.tuple (ps.map prD), .tuple (qs.map prD)], .lst h1 (.cons (.tup x1 (dp_parts y1)) (.cons (.tup x2 (dp_parts y2)) .nil)), .lst g1 (.cons (.tup x3 (dp_parts y3)) (.cons (.tup x4 (dp_parts y4)) .nil)), ?_, ?_, ?_⟩
  · exact shaped_two ga gb
  · exact shaped_two gc gd
  · rw [show PyData.eqv (.list [.tuple (pa.map prD), .tuple (qa.map prD)]) (.list [.tuple (ps.map prD), .tuple (qs.map prD)]) = (PyData.eqvAll (pa.map prD) (ps.map prD) && PyData.eqvAll (qa.map prD) (qs.map prD)) from by simp only [PyData.eqv, PyData.eqvAll, Bool.and_true], eqv_parts, eqv_parts]
    rw [Bool.decide_and] at q
    exact q
theorem kind_many {n : Nat} {ps : List (Str × Str)} (h : 3 < ps.length) : kindD n (.tuple (ps.map prD)) = false := by
  show (decide (n ≤ (ps.map prD).length) && decide ((ps.map prD).length ≤ 3) && (ps.map prD).all strmD) = false
  rw [List.length_map, decide_eq_false (p := ps.length ≤ 3) (by omega), Bool.and_false, Bool.false_and]
theorem letS_app {pa qa pb qb : List (Str × Str)} (one : 1 ≤ pa.length) (ga : GoodP pa) (gb : GoodP qa) (gc : GoodP pb) (gd : GoodP qb) :
    letS (pa ++ pb) (qa ++ qb) = (decide (((pa ++ pb) ++ (qa ++ qb)).map (·.1)).Nodup && (decide ((pa ++ pb).length < 4) && decide ((qa ++ qb).length < 4))) := by
  have h := good_app ga gc
  have g := good_app gb gd
  have one2 : 1 ≤ (pa ++ pb).length := by
    rw [List.length_append]
    omega
  by_cases c1 : (pa ++ pb).length < 4
  · by_cases c2 : (qa ++ qb).length < 4
    · unfold letS
      rw [strsD_yes (kind_parts one2 (by omega) h) (kind_parts (Nat.zero_le _) (by omega) g), ← List.map_append, List.map_map, decide_eq_true c1, decide_eq_true c2, Bool.and_true, Bool.and_true]
      rfl
    · rw [decide_eq_false c2, Bool.and_false, Bool.and_false]
      exact strsD_no2 (kind_many (by omega))
  · rw [decide_eq_false c1, Bool.false_and, Bool.and_false]
    exact strsD_no1 (kind_many (by omega))
theorem strm_of {ps qs : List (Str × Str)} (one : 1 ≤ ps.length) (g : GoodP ps) (h : GoodP qs) (nd : ((ps ++ qs).map (·.1)).Nodup) (few : ps.length < 4) (few2 : qs.length < 4) : Strm ps qs := ⟨one, by omega, by omega, nd, g, h⟩
abbrev s_law_more : Stmt := topS 37
theorem sc_law_more : FnScope ["pot", "streams", "record", "fresh", "one", "other", "due", "names", "is_let", "more", "found", "name", "signs"] ["pot", "streams", "record"] (defScope s_law_more) := ⟨rfl, rfl, rfl, by decide +kernel, rfl, by decide +kernel, by decide +kernel⟩
section
variable {f fdip fpa C CF CI fad fI fch fsh fnm ffr fns fsg fas fk fst fn fs fl : Addr} {fd fddip fdpa fdad fdI fdch fdsh fdnm fdfr fdns fdsg fdas fdk fdst fdn fds fdl : FuncData}
theorem ok_lmore (T : Txt2 mg) (N8 : Num mg "MAX_NAME" 8) (N4 : Num mg "MAX_SIGNS" 4) (N3 : Num mg "MAX_KIND" 3) (SC : StrmC K C) (XInvalidOperation : Err K mg "InvalidOperation" CF) (XInvalidStreams : Err K mg "InvalidStreams" CI) (D : Def K mg "_law_more" s_law_more ["pot", "streams", "record"] f fd) (D_law_dip : Def K mg "_law_dip" s_law_dip ["pot", "total"] fdip fddip)
    (D_law_parts : Def K mg "_law_parts" s_law_parts ["pot", "most"] fpa fdpa) (G_law_parts : FnOk P w K mg base CX0 5 fpa fdpa ["pot", "most"] (spParts K))
    (MStreams : Mk K C fI) (bStreams : Binds K fdI ["self", "sources", "sinks"] []) (gStreams : mg "Streams" = some (.ref C)) (GStreams : FnOk P w K mg base (L2.CX P w) 6 fI fdI ["self", "sources", "sinks"] (spStreams K C CI))
    (AB : AddsBy K C fad) (M__add__ : MethAt K C "__add__" "Streams.__add__" sStreams___add__ ["self", "other"] fad fdad) (G__add__ : FnOk P w K mg base (L2.CX P w) 8 fad fdad ["self", "other"] (spAdd K C CF)) : FnOk P w K mg base CX0 9 f fd ["pot", "streams", "record"] (spDeedN K C) := by
  have G_law_dip : FnOk P w K mg base CX0 1 fdip fddip ["pot", "total"] spDip := ok_dip T.toTxt D_law_dip
  refine D.F.ok sc_law_more (fun vs H Q E h => ?_) (fun cdv A outer s H vs Q E hr h => ?_)
  · obtain ⟨a, x, r, ps, qs, rfl, _⟩ := h
    rfl
  · obtain ⟨a, x, r, ps, qs, rfl, pot, st, sg, rec_, k, kn⟩ := h
    have hu := hr.units
    refine ⟨_, (pss_cons (ps_set (i := 3) sc_law_more.nd rfl (by first | exact Or.inl rfl | exact Or.inr rfl) (pe_call G_law_parts (hr.mono (by decide)) (by rfl) D_law_parts.g D_law_parts.F.kp D_law_parts.b .nil pass0 (pa_cons (pv 0) (pa_cons pe_int pa_nil))))
 (pss_cons (ps_asg (pe_ifExp (pt_cmpR (Z.k_eq (K := K) hu) (pe_call G_law_dip (hr.mono (by decide)) (by rfl) D_law_dip.g D_law_dip.F.kp D_law_dip.b .nil pass0 (pa_cons (pv 0) (pa_cons pe_int pa_nil))) pe_int (nomark _)) (pe_tup (pa_cons (pv 2) (pa_cons (pv 3) pa_nil))) (pe_tup (pa_cons (pv 3) (pa_cons (pv 2) pa_nil)))) (Z.k_tup (K := K) (n := 2) rfl (pgs_cons (pg_name (i := 4) sc_law_more.nd rfl (by first | exact Or.inl rfl | exact Or.inr rfl)) (pgs_cons (pg_name (i := 5) sc_law_more.nd rfl (by first | exact Or.inl rfl | exact Or.inr rfl)) pgs_nil))))
 (pss_cons (ps_set (i := 6) sc_law_more.nd rfl (by first | exact Or.inl rfl | exact Or.inr rfl) (pe_lst (pa_cons (pe_op (Z.k_add (K := K)) (pe_ix (Z.k_item (K := K)) (pv 4) pe_int (fun _ _ => rfl)) (pe_ix (Z.k_item (K := K)) (pv 5) pe_int (fun _ _ => rfl))) (pa_cons (pe_op (Z.k_add (K := K)) (pe_ix (Z.k_item (K := K)) (pv 4) pe_int (fun _ _ => rfl)) (pe_ix (Z.k_item (K := K)) (pv 5) pe_int (fun _ _ => rfl))) pa_nil))))
 (pss_cons (ps_setLc (i := 7) (own := [("name", 11), ("signs", 12)]) (by rfl) sc_law_more.nd rfl rfl (sw_true rfl rfl rfl (by decide +kernel)) (pi_tup (pe_op (Z.k_add (K := K)) (pe_ix (Z.k_item (K := K)) (pv 6) pe_int (fun _ _ => rfl)) (pe_ix (Z.k_item (K := K)) (pv 6) pe_int (fun _ _ => rfl)))) (blkOk_by (own := [("name", 11), ("signs", 12)]) (N := ["pot", "streams", "record", "fresh", "one", "other", "due", "names", "is_let", "more", "found", "name", "signs"]) (sc := defScope s_law_more) (by decide +kernel))
   (fun _ _ _ _ _ => (Z.k_tup (K := K) (n := 2) rfl (pgs_cons (pg_name (i := 11) sc_law_more.nd rfl (by first | exact Or.inl rfl | exact Or.inr rfl)) (pgs_cons (pg_name (i := 12) sc_law_more.nd rfl (by first | exact Or.inl rfl | exact Or.inr rfl)) pgs_nil)))) (fun _ _ _ _ _ => pts_nil) (fun _ _ _ _ _ => (pv 11)))
 (pss_cons (ps_set (i := 8) sc_law_more.nd rfl (by first | exact Or.inl rfl | exact Or.inr rfl) (pe_and (pe_cmpR (Z.k_eq (K := K) hu) (Z.k_lenSet (K := K) rfl (by rfl) T.len (by rfl) T.set (pv 7)) (pe_callB (Z.k_len (K := K)) (by rfl) T.len (by decide +kernel) (pa_cons (pv 7) pa_nil)) (nomark _)) (pe_and (pe_cmpR Z.op_lt (pe_callB (Z.k_len (K := K)) (by rfl) T.len (by decide +kernel) (pa_cons (pe_ix (Z.k_item (K := K)) (pv 6) pe_int (fun _ _ => rfl)) pa_nil)) pe_int (nomark _)) (pe_one (pe_cmpR Z.op_lt (pe_callB (Z.k_len (K := K)) (by rfl) T.len (by decide +kernel) (pa_cons (pe_ix (Z.k_item (K := K)) (pv 6) pe_int (fun _ _ => rfl)) pa_nil)) pe_int (nomark _))))))
 (pss_cons (ps_set (i := 9) sc_law_more.nd rfl (by first | exact Or.inl rfl | exact Or.inr rfl) (pe_make (E := E0) MStreams GStreams (hr.mono (by decide)) (by rfl) gStreams bStreams .nil passL (pa_cons (pe_ix (Z.k_item (K := K)) (pv 3) pe_int (fun _ _ => rfl)) (pa_cons (pe_ix (Z.k_item (K := K)) (pv 3) pe_int (fun _ _ => rfl)) pa_nil))))
 (pss_cons (ps_try_only rfl rfl ⟨rfl, by decide, .inl (XInvalidOperation).g⟩ takes0 (fun W pn xe tk _ => (pss_one (ps_set (i := 10) sc_law_more.nd rfl (by first | exact Or.inl rfl | exact Or.inr rfl) (pe_ifExp (pt_cmpR (Z.k_eq (K := K) hu) (pv 4) (pv 2) (nomark _)) (Z.pe_addAt (fun σ => passAt tk σ) G__add__ (hr.mono (by decide)) AB M__add__.b (pv 1) (pv 9)) (Z.pe_addAt (fun σ => passAt tk σ) G__add__ (hr.mono (by decide)) AB M__add__.b (pv 9) (pv 1))))))
  (fun _ _ _ _ _ _ _ => (pss_one (ps_ret (pe_ifExp (pt_val (pv 8)) (pe_lst (pa_cons (pv 1) (pa_cons (pe_lst pa_nil) pa_nil))) pe_non)))))
 (pss_one (ps_ret (pe_ifExp (pt_val (pv 8)) (pe_lst (pa_cons (pv 10) (pa_cons (pv 6) pa_nil))) (pe_lst (pa_cons (pv 1) (pa_cons (pe_lst pa_nil) pa_nil))))))))))))), ?_⟩
    walk_at "st"
    refine ⟨a, 2, rfl, pot, by decide, by decide, fun H1 fr t3 t4 rs ts m1 nfr hfr dz3 dz4 parts => ?_⟩
    have sg2 := parts.strm (by decide)
    have fra : fr ≠ a := Mv.ne pot (Mv.refl pot) nfr
    have rec2 : Rec K (hid a H1) fr rs ts := ⟨t3, t4, SqL.of (by rw [hid_ne fra]; exact hfr), dz3, dz4⟩
    have rec1 := rec_.mv m1
    walk_at "it"
    with_reducible refine ifx_join (fun v H2 => Mv a H1 H2 ∧ ∃ T o o2, v = .ref T ∧ SqT K (hid a H2) T [.ref o, .ref o2] ∧ ((o = r ∧ o2 = fr) ∨ (o = fr ∧ o2 = r))) ?_ ?_
    rotate_left
    · intro Q2 post
      walk_at "st"
      refine ⟨a, 2, rfl, m1.pot, by decide, by decide, fun H2 r2 m2 r20 r21 => ?_⟩
      walk_at "st"
      by_cases c : r2 = 0
      · rw [decide_eq_true c]
        refine iteT ?_
        walk_at "st"
        refine ⟨by show 2 ≤ sizeLine; decide, fun T2 nT2 => ?_⟩
        generalize egT2 : upd H2 T2 _ = H3
        obtain ⟨m3, h3⟩ := at_new (K := K) egT2 nT2 m2.pot
        clear egT2
        exact post _ _ ⟨m2.trans m3, T2, r, fr, rfl, h3, .inl ⟨rfl, rfl⟩⟩
      · rw [decide_eq_false c]
        refine iteF ?_
        walk_at "st"
        refine ⟨by show 2 ≤ sizeLine; decide, fun T2 nT2 => ?_⟩
        generalize egT2 : upd H2 T2 _ = H3
        obtain ⟨m3, h3⟩ := at_new (K := K) egT2 nT2 m2.pot
        clear egT2
        exact post _ _ ⟨m2.trans m3, T2, fr, r, rfl, h3, .inr ⟨rfl, rfl⟩⟩
    rintro _ H2 ⟨m2, T2, o, o2, rfl, hT, way⟩
    have m02 := m1.trans m2
    obtain ⟨pa, qa, pb, qb, ra, rb, sa, sb, same⟩ : ∃ pa qa pb qb : List (Str × Str), Rec K (hid a H2) o pa qa ∧ Rec K (hid a H2) o2 pb qb ∧ Strm pa qa ∧ Strm pb qb ∧ ((o = r ∧ o2 = fr ∧ pa = ps ∧ qa = qs ∧ pb = rs ∧ qb = ts) ∨ (o = fr ∧ o2 = r ∧ pa = rs ∧ qa = ts ∧ pb = ps ∧ qb = qs)) := by
      rcases way with ⟨rfl, rfl⟩ | ⟨rfl, rfl⟩
      · exact ⟨ps, qs, rs, ts, rec1.mv m2, rec2.mv m2, sg, sg2, .inl ⟨rfl, rfl, rfl, rfl, rfl, rfl⟩⟩
      · exact ⟨rs, ts, ps, qs, rec2.mv m2, rec1.mv m2, sg2, sg, .inr ⟨rfl, rfl, rfl, rfl, rfl, rfl⟩⟩
    obtain ⟨v1, u1, ho, dv1, du1⟩ := id ra
    obtain ⟨v2, u2, ho2, dv2, du2⟩ := id rb
    obtain ⟨_, x1, e1, b1, c1⟩ := dv1.tuple
    cases e1
    obtain ⟨_, y1, e1, b2, c2⟩ := du1.tuple
    cases e1
    obtain ⟨_, x2, e1, b3, c3⟩ := dv2.tuple
    cases e1
    obtain ⟨_, y2, e1, b4, c4⟩ := du2.tuple
    cases e1
    have n1 := c1.len
    have n2 := c2.len
    have n3 := c3.len
    have n4 := c4.len
    rw [List.length_map] at n1 n2 n3 n4
    have l1 := sa.few
    have l2 := sa.few2
    have l3 := sb.few
    have l4 := sb.few2
    refine ⟨T2, _, rfl, sqt_unhid hT, rfl, ?_⟩
    walk_at "st"
    refine item (sql_unhid ho) (by rfl) ?_
    walk_at "st"
    refine item (sql_unhid ho2) (by rfl) ?_
    refine catM m02.pot b1 b3 (by omega) fun p1 H3 m3 q1 => ?_
    have m03 := m02.trans m3
    walk_at "st"
    refine item (sql_unhid (sql_mv ho m3)) (by rfl) ?_
    walk_at "st"
    refine item (sql_unhid (sql_mv ho2 m3)) (by rfl) ?_
    refine catM m3.pot (sqt_mv b2 m3) (sqt_mv b4 m3) (by omega) fun p2 H4 m4 q2 => ?_
    have m34 := m3.trans m4
    have m04 := m02.trans m34
    walk_at "st"
    refine ⟨by show 2 ≤ sizeLine; decide, fun du ndu => ?_⟩
    generalize egdu : upd H4 du _ = H5
    obtain ⟨m5, _, dua, hdu⟩ := at_newL (K := K) egdu ndu m4.pot
    clear egdu
    have m35 := m34.trans m5
    have m05 := m04.trans m5
    have la : (pa ++ pb).length ≤ 6 := by rw [List.length_append]; omega
    have lb : (qa ++ qb).length ≤ 6 := by rw [List.length_append]; omega
    have dzA : Dz K (hid a H5) (.ref p1) (.tuple ((pa ++ pb).map prD)) := by
      rw [List.map_append]
      exact .tup (sqt_mv q1 (m4.trans m5)) ((c1.mv m35).app (c3.mv m35))
    have dzB : Dz K (hid a H5) (.ref p2) (.tuple ((qa ++ qb).map prD)) := by
      rw [List.map_append]
      exact .tup (sqt_mv q2 m5) ((c2.mv m35).app (c4.mv m35))
    obtain ⟨_, w1, e1, f1, g1⟩ := dzA.tuple
    cases e1
    obtain ⟨_, w2, e1, f2, g2⟩ := dzB.tuple
    cases e1
    have k1 := g1.len
    have k2 := g2.len
    rw [List.length_map] at k1 k2
    walk_at "st"
    refine item (SqL.of hdu) (by rfl) ?_
    walk_at "st"
    refine item (SqL.of hdu) (by rfl) ?_
    refine catM m5.pot f1 f2 (by omega) fun p3 H6 m6 q3 => ?_
    refine ⟨p3, rfl, ⟨_, sqt_unhid q3⟩, comp_nm (ps := (pa ++ pb) ++ (qa ++ qb)) (sqt_unhid q3) (by rw [List.map_append]; exact (g1.mv m6).un.app (g2.mv m6).un) (by rw [List.length_append]; omega) (fun _ _ => rfl) (fun _ _ => rfl) ?_⟩
    intro nm H7 fnm s7 hnm
    have m7 := Mv.of_same m6.pot s7
    have m57 := m6.trans m7
    have m07 := m05.trans m57
    have hdu7 := m57.at dua hdu
    walk_at "it"
    with_reducible refine and_join (fun v H8 => v = .bl (letS (pa ++ pb) (qa ++ qb)) ∧ H7 = H8) ?_ ?_
    rotate_left
    · intro Q2 post
      with_reducible refine s_andV ?_
      refine lens_eq (zs := ((pa ++ pb) ++ (qa ++ qb)).map (·.1)) (by rfl) hnm (by rw [List.length_map, List.length_append]; omega) ?_
      refine s_bl (P := _) ?_
      have ee := letS_app sa.one sa.good sa.good2 sb.good sb.good2
      by_cases c : (((pa ++ pb) ++ (qa ++ qb)).map (·.1)).Nodup
      · rw [decide_eq_true c]
        refine iteT ?_
        walk_at "st"
        refine item (SqL.of hdu7) (by rfl) ?_
        walk_at "st"
        refine .inl ⟨_, .inr (sqt_unhid (sqt_mv f1 m57)), ?_⟩
        walk_at "st"
        by_cases c4 : (pa ++ pb).length < 4
        · rw [decide_eq_true (by omega)]
          refine iteT ?_
          walk_at "st"
          refine item (SqL.of hdu7) (by rfl) ?_
          walk_at "st"
          refine .inl ⟨_, .inr (sqt_unhid (sqt_mv f2 m57)), ?_⟩
          walk_at "st"
          refine post _ _ ⟨congrArg V.bl ?_, rfl⟩
          rw [ee, decide_eq_true c, decide_eq_true c4, Bool.true_and, Bool.true_and]
          exact decide_eq_decide.mpr (by omega)
        · rw [decide_eq_false (by omega)]
          refine iteF ?_
          refine post _ _ ⟨congrArg V.bl ?_, rfl⟩
          rw [ee, decide_eq_true c, decide_eq_false c4]
          rfl
      · rw [decide_eq_false c]
        refine iteF ?_
        refine post _ _ ⟨congrArg V.bl ?_, rfl⟩
        rw [ee, decide_eq_false c]
        rfl
    rintro _ _ ⟨rfl, rfl⟩
    walk_at "st"
    with_reducible refine s_make ?_
    walk_at "st"
    have m27 := m35.trans m57
    have m17 := m2.trans m27
    have hfr7 := m17.at fra hfr
    refine item (SqL.of hfr7) (by rfl) ?_
    walk_at "st"
    refine item (SqL.of hfr7) (by rfl) ?_
    walk_at "st"
    intro x2 dx2 nx ndx ne
    refine make_ok2 nx ndx ne (Dz.same same_hid _ _ (dz3.mv m17)) (Dz.same same_hid _ _ (dz4.mv m17)) sg2 fun H8 s8 st8 => ?_
    have m8 := Mv.of_same m7.pot s8
    have m08 := m07.trans m8
    have m28 := m27.trans m8
    have stx := (st.mv m08).un
    obtain ⟨dx, _, _, _, _, _, hx, _⟩ := id stx
    obtain ⟨dy, _, _, _, _, _, hy, _⟩ := id st8
    walk_at "it"
    with_reducible refine ifx_join (fun v H9 => Mv a H8 H9 ∧ letS (pa ++ pb) (qa ++ qb) = true ∧ ∃ y, v = .ref y ∧ StAt K C (hid a H9) y (pa ++ pb) (qa ++ qb)) ?_ ?_
    rotate_left
    · intro Q2 post
      walk_at "st"
      refine eq_recs (Rec.un (ra.mv m28)) (Rec.un (rec_.mv m08)) sa.good sa.good2 sg.good sg.good2 ?_
      refine s_bl (P := _) ?_
      by_cases c : pa = ps ∧ qa = qs
      · rw [decide_eq_true c]
        refine iteT ?_
        have eA : ps ++ rs = pa ++ pb := by
          rcases same with ⟨_, _, z1, z2, z3, z4⟩ | ⟨_, _, z1, z2, z3, z4⟩
          · rw [z1, z3]
          · rw [z3, ← z1, c.1]
        have eB : qs ++ ts = qa ++ qb := by
          rcases same with ⟨_, _, z1, z2, z3, z4⟩ | ⟨_, _, z1, z2, z3, z4⟩
          · rw [z2, z4]
          · rw [z4, ← z2, c.2]
        with_reducible refine s_addAt ?_
        walk_at "st"
        refine ⟨x, x2, dx, dy, _, _, rfl, rfl, hx, hy, x, x2, ps, qs, rs, ts, rfl, stx, st8, sg.few, sg.few2, sg2.few, sg2.few2, wt_six (good_app sg.good sg2.good) (by rw [eA]; exact la), wt_six (good_app sg.good2 sg2.good2) (by rw [eB]; exact lb), fun e H9 y s9 st9 => ?_, fun e H9 s9 => ?_⟩
        · rw [eA, eB] at e st9
          exact post _ _ ⟨Mv.of_same m8.pot s9, e, y, rfl, (keepT_pot (Mv.of_same m8.pot s9).pot).st st9⟩
        · rw [eA, eB] at e
          refine ⟨true, XInvalidOperation.e, fun _ b nb => ?_, fun q => Bool.noConfusion q⟩
          walk_at "st"
          rw [e]
          refine iteF ?_
          walk_at "st"
          exact kn H9 (m08.trans (Mv.of_same m8.pot s9))
      · rw [decide_eq_false c]
        refine iteF ?_
        obtain ⟨eA, eB⟩ : rs ++ ps = pa ++ pb ∧ ts ++ qs = qa ++ qb := by
          rcases same with ⟨_, _, z1, z2, z3, z4⟩ | ⟨_, _, z1, z2, z3, z4⟩
          · exact absurd ⟨z1, z2⟩ c
          · rw [z1, z2, z3, z4]
            exact ⟨rfl, rfl⟩
        with_reducible refine s_addAt ?_
        walk_at "st"
        refine ⟨x2, x, dy, dx, _, _, rfl, rfl, hy, hx, x2, x, rs, ts, ps, qs, rfl, st8, stx, sg2.few, sg2.few2, sg.few, sg.few2, wt_six (good_app sg2.good sg.good) (by rw [eA]; exact la), wt_six (good_app sg2.good2 sg.good2) (by rw [eB]; exact lb), fun e H9 y s9 st9 => ?_, fun e H9 s9 => ?_⟩
        · rw [eA, eB] at e st9
          exact post _ _ ⟨Mv.of_same m8.pot s9, e, y, rfl, (keepT_pot (Mv.of_same m8.pot s9).pot).st st9⟩
        · rw [eA, eB] at e
          refine ⟨true, XInvalidOperation.e, fun _ b nb => ?_, fun q => Bool.noConfusion q⟩
          walk_at "st"
          rw [e]
          refine iteF ?_
          walk_at "st"
          exact kn H9 (m08.trans (Mv.of_same m8.pot s9))
    rintro _ H9 ⟨m9, let_, y, rfl, st9⟩
    walk_at "st"
    rw [let_]
    refine iteT ?_
    walk_at "st"
    refine ⟨by show 2 ≤ sizeLine; decide, fun out nout => ?_⟩
    generalize egout : upd H9 out _ = H10
    obtain ⟨m10, _, nout, hout⟩ := at_newL (K := K) egout nout m9.pot
    clear egout
    have m5A := m57.trans (m8.trans (m9.trans m10))
    exact k H10 out y du _ _ (m04.free pot ndu) (m05.trans m5A) nout hout (st9.mv m10) ⟨p1, p2, SqL.of (by rw [hid_ne dua]; exact m5A.at dua hdu), dzA.mv m5A, dzB.mv m5A⟩ (by
      rw [letS_app sa.one sa.good sa.good2 sb.good sb.good2, Bool.and_eq_true, Bool.and_eq_true, decide_eq_true_eq, decide_eq_true_eq, decide_eq_true_eq] at let_
      exact strm_of (by rw [List.length_append]; have := sa.one; omega) (good_app sa.good sb.good) (good_app sa.good2 sb.good2) let_.1 let_.2.1 let_.2.2)
end
end
end Z
local macro_rules | `(tactic| walk_at "st") => `(tactic| repeat (first
  | ((with_reducible refine' Z.s_var ?h ?_); (case h => exact rfl))
  | with_reducible refine Z.s_c ?_
  | with_reducible refine Z.s_op ?_
  | with_reducible refine Z.s_un ?_
  | with_reducible refine Z.s_nil ?_
  | with_reducible refine Z.s_cons ?_
  | with_reducible refine Z.s_cb ?_
  | with_reducible refine Z.s_call ?_
  | with_reducible refine Z.s_tup ?_
  | with_reducible refine Z.s_lst ?_
  | with_reducible refine Z.s_test ?_
  | with_reducible refine Z.s_B ?_
  | with_reducible refine Z.s_and ?_
  | with_reducible refine Z.s_or ?_
  | with_reducible refine Z.s_not ?_
  | with_reducible refine Z.s_andV ?_
  | with_reducible refine Z.s_orV ?_
  | with_reducible refine Z.s_notV ?_
  | with_reducible refine Z.s_if ?_
  | with_reducible refine Z.s_chain ?_
  | with_reducible refine Z.s_seq ?_
  | with_reducible refine Z.s_next ?_
  | with_reducible refine Z.s_drop ?_
  | with_reducible refine Z.s_ret ?_
  | with_reducible refine Z.s_ifS ?_
  | with_reducible refine Z.s_asg ?_
  | with_reducible refine Z.s_name ?_
  | with_reducible refine Z.s_par ?_
  | with_reducible refine Z.s_item ?_
  | with_reducible refine Z.s_part ?_
  | with_reducible refine Z.s_noPart ?_
  | with_reducible refine Z.s_cut ?_
  | with_reducible refine Z.s_bm0 ?_
  | with_reducible refine Z.s_bm ?_
  | with_reducible refine Z.s_bl (P := _) ?_
  | with_reducible refine Z.s_two (P := _) ?_
  | with_reducible refine Z.s_int (P := _) ?_
  | with_reducible refine Z.a_addI ?_
  | with_reducible refine Z.a_subI ?_
  | with_reducible refine Z.a_ltI ?_
  | with_reducible refine Z.a_leI ?_
  | with_reducible refine Z.a_gtI ?_
  | with_reducible refine Z.a_geI ?_
  | with_reducible refine Z.a_eqI ?_
  | with_reducible refine Z.a_neI ?_
  | with_reducible refine Z.a_eqS ?_
  | with_reducible refine Z.a_neS ?_
  | with_reducible refine Z.a_eqB ?_
  | with_reducible refine Z.a_neB ?_
  | with_reducible refine Z.a_isN ?_
  | with_reducible refine Z.a_notN ?_
  | with_reducible refine Z.a_setL ?_
  | with_reducible refine Z.a_int ?_
  | with_reducible refine Z.a_intB ?_
  | with_reducible refine Z.a_abs ?_
  | with_reducible refine Z.a_max ?_
  | with_reducible refine Z.a_min ?_
  | with_reducible refine Z.s_lc ?_
  | with_reducible refine Z.s_for ?_
  | with_reducible refine Z.s_iList ?_
  | with_reducible refine Z.s_iTup ?_
  | with_reducible refine Z.s_iStr ?_
  | with_reducible refine Z.s_rng1 ?_
  | with_reducible refine Z.s_rng2 ?_
  | with_reducible refine Z.s_gtup ?_
  | with_reducible refine Z.s_gcons ?_
  | with_reducible refine Z.s_gnil ?_
  | with_reducible refine Z.s_yes ?_
  | with_reducible refine Z.s_ref (P := _) ?_
  | with_reducible refine Z.s_str (P := _) ?_
  | with_reducible refine Z.s_one (P := _) ?_
  | with_reducible refine Z.s_m1 ?_
  | with_reducible refine Z.s_m0 ?_
  | with_reducible refine Z.s_isStr ?_))
local macro_rules | `(tactic| walk_at "it") => `(tactic| repeat (first
  | with_reducible refine Z.s_name ?_
  | with_reducible refine Z.s_next ?_
  | with_reducible refine Z.s_seq ?_
  | with_reducible refine Z.s_asg ?_))
namespace Z
open PySem PySem.Spec PyProof.Rows L2 G
section
variable {P : Program} {w : World} {K : PySem.W.Frag} {mg : Str → Option Value} {base : Heap}
/-- streams == a list -/
def spEqL (C : Addr) : Sp := fun vs H Q _ => ∃ a b dx fs xs, vs = [.ref a, .ref b] ∧ H a = some (.ins C dx fs) ∧ H b = some (.lst xs) ∧ Q (.bl false) H
theorem ok_eqL {f C : Addr} {fd : FuncData} (T : Txt2 mg) (SC : StrmC K C) (nL : PySem.W.kitOne K (.type "list") (.ref C) = some false) (gStreams : mg "Streams" = some (.ref C)) (M : MethAt K C "__eq__" "Streams.__eq__" sStreams___eq__ ["self", "other"] f fd) : FnOk P w K mg base CX0 1 f fd ["self", "other"] (spEqL C) := by
  refine M.F.ok scStreams___eq__ (fun vs H Q E h => ?_) (fun cdv A outer s H vs Q E hr h => ?_)
  · obtain ⟨a, b, dx, fs, xs, rfl, _⟩ := h
    rfl
  · obtain ⟨a, b, dx, fs, xs, rfl, h1, h2, k⟩ := h
    have hu := hr.units
    refine ⟨_, (pss_one (ps_ret (pe_and (pe_callB (Z.k_is (K := K)) (by rfl) T.isinstance (by decide +kernel) (pa_cons (pv 1) (pa_cons (pe_glob (v := .ref C) (by rfl) gStreams rfl) pa_nil))) (pe_and (pe_cmpR (Z.k_eq (K := K) hu) (pe_fld (pv 0) rfl) (pe_fld (pv 1) rfl) (nomark _)) (pe_one (pe_cmpR (Z.k_eq (K := K) hu) (pe_fld (pv 0) rfl) (pe_fld (pv 1) rfl) (nomark _))))))), ?_⟩
    walk_at "st"
    refine ⟨_, _, .base (.lst h2), nL, ?_⟩
    refine s_bl (P := _) ?_
    refine iteF ?_
    walk_at "st"
    exact k
def spDeed (K : PySem.W.Frag) (C : Addr) : Sp := fun vs H Q _ => ∃ a x r ps qs, vs = [.ref a, .ref x, .ref r] ∧ Pot a H ∧ StAt K C (hid a H) x ps qs ∧ Strm ps qs ∧ Rec K (hid a H) r ps qs ∧ ∀ H1 p y r2 ps2 qs2, (H r2 = none ∨ r2 = r) → Mv a H H1 → p ≠ a → H1 p = some (.lst [.ref y, .ref r2]) → StAt K C (hid a H1) y ps2 qs2 → Rec K (hid a H1) r2 ps2 qs2 → Strm ps2 qs2 → Q (.ref p) H1
abbrev s_law_deed : Stmt := topS 38
theorem sc_law_deed : FnScope ["pot", "streams", "record", "way", "found"] ["pot", "streams", "record"] (defScope s_law_deed) := ⟨rfl, rfl, rfl, by decide +kernel, rfl, by decide +kernel, by decide +kernel⟩
section
variable {f fdip fle fmo frd C : Addr} {fd fddip fdle fdmo fdrd : FuncData}
theorem ok_ldeed (T : Txt2 mg) (D : Def K mg "_law_deed" s_law_deed ["pot", "streams", "record"] f fd) (D_law_dip : Def K mg "_law_dip" s_law_dip ["pot", "total"] fdip fddip)
    (D_law_renamed : Def K mg "_law_renamed" s_law_renamed ["pot", "streams", "record"] frd fdrd) (G_law_renamed : FnOk P w K mg base CX0 9 frd fdrd ["pot", "streams", "record"] (spRend K C))
    (D_law_less : Def K mg "_law_less" s_law_less ["pot", "streams", "record"] fle fdle) (G_law_less : FnOk P w K mg base CX0 9 fle fdle ["pot", "streams", "record"] (spDeedN K C))
    (D_law_more : Def K mg "_law_more" s_law_more ["pot", "streams", "record"] fmo fdmo) (G_law_more : FnOk P w K mg base CX0 9 fmo fdmo ["pot", "streams", "record"] (spDeedN K C)) : FnOk P w K mg base CX0 10 f fd ["pot", "streams", "record"] (spDeed K C) := by
  have G_law_dip : FnOk P w K mg base CX0 1 fdip fddip ["pot", "total"] spDip := ok_dip T.toTxt D_law_dip
  refine D.F.ok sc_law_deed (fun vs H Q E h => ?_) (fun cdv A outer s H vs Q E hr h => ?_)
  · obtain ⟨a, x, r, ps, qs, rfl, _⟩ := h
    rfl
  · obtain ⟨a, x, r, ps, qs, rfl, pot, st, sg, rec_, k⟩ := h
    have hu := hr.units
    refine ⟨_, (pss_cons (ps_set (i := 3) sc_law_deed.nd rfl (by first | exact Or.inl rfl | exact Or.inr rfl) (pe_call G_law_dip (hr.mono (by decide)) (by rfl) D_law_dip.g D_law_dip.F.kp D_law_dip.b .nil pass0 (pa_cons (pv 0) (pa_cons pe_int pa_nil))))
 (pss_cons (ps_if (pt_cmpR Z.op_lt (pv 3) pe_int (nomark _))
  (pss_one (ps_ret (pe_call G_law_renamed (hr.mono (by decide)) (by rfl) D_law_renamed.g D_law_renamed.F.kp D_law_renamed.b .nil pass0 (pa_cons (pv 0) (pa_cons (pv 1) (pa_cons (pv 2) pa_nil))))))
  pss_nil)
 (pss_cons (ps_set (i := 4) sc_law_deed.nd rfl (by first | exact Or.inl rfl | exact Or.inr rfl) (pe_ifExp (pt_cmpR Z.op_lt (pv 3) pe_int (nomark _)) (pe_call G_law_less (hr.mono (by decide)) (by rfl) D_law_less.g D_law_less.F.kp D_law_less.b .nil pass0 (pa_cons (pv 0) (pa_cons (pv 1) (pa_cons (pv 2) pa_nil)))) (pe_call G_law_more (hr.mono (by decide)) (by rfl) D_law_more.g D_law_more.F.kp D_law_more.b .nil pass0 (pa_cons (pv 0) (pa_cons (pv 1) (pa_cons (pv 2) pa_nil))))))
 (pss_one (ps_ret (pe_ifExp (pt_cmpR Z.op_isN (pv 4) pe_non (nomark _)) (pe_lst (pa_cons (pv 1) (pa_cons (pv 2) pa_nil))) (pv 4))))))), ?_⟩
    walk_at "st"
    refine ⟨a, 6, rfl, pot, by decide, by decide, fun H1 way m1 w0 w1 => ?_⟩
    walk_at "st"
    by_cases c2 : way < 2
    · rw [decide_eq_true c2]
      refine iteT ?_
      walk_at "st"
      exact ⟨a, x, r, ps, qs, rfl, m1.pot, st.mv m1, sg, rec_.mv m1, fun H2 p y r2 ps2 qs2 nr m2 => k H2 p y r2 ps2 qs2 (.inl (m1.free pot nr)) (m1.trans m2)⟩
    · rw [decide_eq_false c2]
      refine iteF ?_
      walk_at "it"
      with_reducible refine ifx_join (fun v H2 => (v = .non ∧ Mv a H1 H2) ∨ ∃ p y r2 ps2 qs2, v = .ref p ∧ H1 r2 = none ∧ Mv a H1 H2 ∧ p ≠ a ∧ H2 p = some (.lst [.ref y, .ref r2]) ∧ StAt K C (hid a H2) y ps2 qs2 ∧ Rec K (hid a H2) r2 ps2 qs2 ∧ Strm ps2 qs2) ?_ ?_
      rotate_left
      · intro Q2 post
        walk_at "st"
        by_cases c4 : way < 4
        · rw [decide_eq_true c4]
          refine iteT ?_
          walk_at "st"
          exact ⟨a, x, r, ps, qs, rfl, m1.pot, st.mv m1, sg, rec_.mv m1, fun H2 p y r2 ps2 qs2 nr m2 n e s1 r1 g => post _ _ (.inr ⟨p, y, r2, ps2, qs2, rfl, nr, m2, n, e, s1, r1, g⟩), fun H2 m2 => post _ _ (.inl ⟨rfl, m2⟩)⟩
        · rw [decide_eq_false c4]
          refine iteF ?_
          walk_at "st"
          exact ⟨a, x, r, ps, qs, rfl, m1.pot, st.mv m1, sg, rec_.mv m1, fun H2 p y r2 ps2 qs2 nr m2 n e s1 r1 g => post _ _ (.inr ⟨p, y, r2, ps2, qs2, rfl, nr, m2, n, e, s1, r1, g⟩), fun H2 m2 => post _ _ (.inl ⟨rfl, m2⟩)⟩
      rintro v H2 (⟨rfl, m2⟩ | ⟨p, y, r2, ps2, qs2, rfl, nr, m2, n, e, s1, r1, g⟩)
      · walk_at "st"
        refine iteT ?_
        walk_at "st"
        refine ⟨by show 2 ≤ sizeLine; decide, fun out nout => ?_⟩
        generalize egout : upd H2 out _ = H3
        obtain ⟨m3, _, nout, hout⟩ := at_newL (K := K) egout nout m2.pot
        clear egout
        have m23 := m2.trans m3
        exact k H3 out x r ps qs (.inr rfl) (m1.trans m23) nout hout (st.mv (m1.trans m23)) (rec_.mv (m1.trans m23)) sg
      · walk_at "st"
        refine iteF ?_
        walk_at "st"
        exact k H2 p y r2 ps2 qs2 (.inl (m1.free pot nr)) (m1.trans m2) n e s1 r1 g
end
end
end Z
local macro_rules | `(tactic| walk_at "st") => `(tactic| repeat (first
  | ((with_reducible refine' Z.s_var ?h ?_); (case h => exact rfl))
  | with_reducible refine Z.s_c ?_
  | with_reducible refine Z.s_op ?_
  | with_reducible refine Z.s_un ?_
  | with_reducible refine Z.s_nil ?_
  | with_reducible refine Z.s_cons ?_
  | with_reducible refine Z.s_cb ?_
  | with_reducible refine Z.s_call ?_
  | with_reducible refine Z.s_tup ?_
  | with_reducible refine Z.s_lst ?_
  | with_reducible refine Z.s_test ?_
  | with_reducible refine Z.s_B ?_
  | with_reducible refine Z.s_and ?_
  | with_reducible refine Z.s_or ?_
  | with_reducible refine Z.s_not ?_
  | with_reducible refine Z.s_andV ?_
  | with_reducible refine Z.s_orV ?_
  | with_reducible refine Z.s_notV ?_
  | with_reducible refine Z.s_if ?_
  | with_reducible refine Z.s_chain ?_
  | with_reducible refine Z.s_seq ?_
  | with_reducible refine Z.s_next ?_
  | with_reducible refine Z.s_drop ?_
  | with_reducible refine Z.s_ret ?_
  | with_reducible refine Z.s_ifS ?_
  | with_reducible refine Z.s_asg ?_
  | with_reducible refine Z.s_name ?_
  | with_reducible refine Z.s_par ?_
  | with_reducible refine Z.s_item ?_
  | with_reducible refine Z.s_part ?_
  | with_reducible refine Z.s_noPart ?_
  | with_reducible refine Z.s_cut ?_
  | with_reducible refine Z.s_bm0 ?_
  | with_reducible refine Z.s_bm ?_
  | with_reducible refine Z.s_bl (P := _) ?_
  | with_reducible refine Z.s_two (P := _) ?_
  | with_reducible refine Z.s_int (P := _) ?_
  | with_reducible refine Z.a_addI ?_
  | with_reducible refine Z.a_subI ?_
  | with_reducible refine Z.a_ltI ?_
  | with_reducible refine Z.a_leI ?_
  | with_reducible refine Z.a_gtI ?_
  | with_reducible refine Z.a_geI ?_
  | with_reducible refine Z.a_eqI ?_
  | with_reducible refine Z.a_neI ?_
  | with_reducible refine Z.a_eqS ?_
  | with_reducible refine Z.a_neS ?_
  | with_reducible refine Z.a_eqB ?_
  | with_reducible refine Z.a_neB ?_
  | with_reducible refine Z.a_isN ?_
  | with_reducible refine Z.a_notN ?_
  | with_reducible refine Z.a_setL ?_
  | with_reducible refine Z.a_int ?_
  | with_reducible refine Z.a_intB ?_
  | with_reducible refine Z.a_abs ?_
  | with_reducible refine Z.a_max ?_
  | with_reducible refine Z.a_min ?_
  | with_reducible refine Z.s_lc ?_
  | with_reducible refine Z.s_for ?_
  | with_reducible refine Z.s_iList ?_
  | with_reducible refine Z.s_iTup ?_
  | with_reducible refine Z.s_iStr ?_
  | with_reducible refine Z.s_rng1 ?_
  | with_reducible refine Z.s_rng2 ?_
  | with_reducible refine Z.s_gtup ?_
  | with_reducible refine Z.s_gcons ?_
  | with_reducible refine Z.s_gnil ?_
  | with_reducible refine Z.s_yes ?_
  | with_reducible refine Z.s_ref (P := _) ?_
  | with_reducible refine Z.s_str (P := _) ?_
  | with_reducible refine Z.s_one (P := _) ?_
  | with_reducible refine Z.s_m1 ?_
  | with_reducible refine Z.s_m0 ?_
  | with_reducible refine Z.s_isStr ?_))
local macro_rules | `(tactic| walk_at "it") => `(tactic| repeat (first
  | with_reducible refine Z.s_name ?_
  | with_reducible refine Z.s_next ?_
  | with_reducible refine Z.s_seq ?_
  | with_reducible refine Z.s_asg ?_))
namespace Z
open PySem PySem.Spec PyProof.Rows L2 G
section
variable {P : Program} {w : World} {K : PySem.W.Frag} {mg : Str → Option Value} {base : Heap}
theorem k_gl {X : Cx} {es : List Expr} {k : Nat} {t : TGs} {n : Nat} {pos : Pos} (hc : X.calm = true) (g : PGs X es t) (h : X.K = K := by rfl)
    (hn : (assignEach es X.env).length = n := by rfl) (hst : (assignEach es X.env).findIdx? (·.1) = none := by rfl) : PG X (.Tuple es k pos) (gLst K n t) := by
  subst h
  exact pg_lst hc g hn hst
/-- the drawn pairs of a kind -/
theorem KeepT.rec {H H1 : Hp} {r : Addr} {ps qs : List (Str × Str)} (k : KeepT H H1) (same : ∀ o, H r = some o → H1 r = some o) (h : Rec K H r ps qs) : Rec K H1 r ps qs := by
  obtain ⟨t1, t2, hL, dz, dy⟩ := h
  refine ⟨t1, t2, ?_, k.dz dz, k.dz dy⟩
  rcases hL with (h | ⟨o, h⟩) | h
  · exact .inl (.inl (same _ h))
  · exact .inl (.inr ⟨o, same _ h⟩)
  · exact .inr h
/-- the elder list may change -/
theorem keepT_upd {a el : Addr} {H : Hp} {xs : List V} {o : HO} (h : H el = some (.lst xs)) (ne : el ≠ a) : KeepT (hid a H) (hid a (upd H el o)) := by
  intro b u e n
  obtain ⟨na, e⟩ := hid_some e
  have nb : b ≠ el := fun c => by
    rw [c, h] at e
    exact n xs (Option.some.inj e).symm
  rw [hid_ne na, upd_ne nb]
  exact e
theorem same_upd_at {a el r : Addr} {H : Hp} {o : HO} (ne : r ≠ el) : ∀ u, hid a H r = some u → hid a (upd H el o) r = some u := by
  intro u e
  obtain ⟨na, e⟩ := hid_some e
  rw [hid_ne na, upd_ne ne]
  exact e
/-- streams and their record, put down -/
def Eld (K : PySem.W.Frag) (C : Addr) (H : Hp) (v : V) : Prop := ∃ p y r ps qs xs, v = .ref p ∧ H p = some (.lst [.ref y, .ref r]) ∧ StAt K C H y ps qs ∧ Rec K H r ps qs ∧ H r = some (.lst xs) ∧ Strm ps qs
theorem Eld.same {C : Addr} {H H1 : Hp} {v : V} (h : Eld K C H v) (s : Same H H1) : Eld K C H1 v := by
  obtain ⟨p, y, r, ps, qs, xs, e, h1, h2, h3, h4, h5⟩ := h
  exact ⟨p, y, r, ps, qs, xs, e, s _ _ h1, h2.same s, h3.same s, s _ _ h4, h5⟩
theorem eq_rec_nil {H : Hp} {Q : VK} {r z : Addr} {ps qs : List (Str × Str)} (h : Rec K H r ps qs) (g : SqL K H z []) (ga : GoodP ps) (gb : GoodP qs) (q : Q (.bl false) H) : Z.rEq K (.ref r) (.ref z) H Q := by
  obtain ⟨a1, a2, h1, h2, h3⟩ := h
  obtain ⟨_, _, e1, x1, y1⟩ := h2.tuple
  cases e1
  obtain ⟨_, _, e1, x2, y2⟩ := h3.tuple
  cases e1
  refine .inr ⟨.list [.tuple (ps.map prD), .tuple (qs.map prD)], .list [], .lst h1 (.cons (.tup x1 (dp_parts y1)) (.cons (.tup x2 (dp_parts y2)) .nil)), .lst g .nil, shaped_two ga gb, by decide +kernel, ?_⟩
  rw [show PyData.eqv (.list [.tuple (ps.map prD), .tuple (qs.map prD)]) (.list []) = false from by simp only [PyData.eqv, PyData.eqvAll]]
  exact q
def spLRight : Sp := fun vs H Q _ => ∃ a, vs = [.ref a] ∧ Pot a H ∧ ∀ H1, Mv a H H1 → Q (.bl true) H1
abbrev s_law_right : Stmt := topS 39
theorem sc_law_right : FnScope ["pot", "record", "streams", "elder", "turn", "one", "part"] ["pot"] (defScope s_law_right) := ⟨rfl, rfl, rfl, by decide +kernel, rfl, by decide +kernel, by decide +kernel⟩
section
variable {f fdip fpa fde fto fwr C CI CF fI feq p1 p2 p3 f1 f2 f3 : Addr} {fd fddip fdpa fdde fdto fdwr fdI fdeq fd1 fd2 fd3 : FuncData}
theorem ok_lright (V : Env2 P w K mg base C CI CF fI p1 p2 p3 f1 f2 f3 fdI fd1 fd2 fd3) (nL : PySem.W.kitOne K (.type "list") (.ref C) = some false) (D : Def K mg "_law_right" s_law_right ["pot"] f fd) (D_law_dip : Def K mg "_law_dip" s_law_dip ["pot", "total"] fdip fddip)
    (D_law_parts : Def K mg "_law_parts" s_law_parts ["pot", "most"] fpa fdpa) (G_law_parts : FnOk P w K mg base CX0 5 fpa fdpa ["pot", "most"] (spParts K))
    (D_law_deed : Def K mg "_law_deed" s_law_deed ["pot", "streams", "record"] fde fdde) (G_law_deed : FnOk P w K mg base CX0 10 fde fdde ["pot", "streams", "record"] (spDeed K C))
    (D_law_is_told : Def K mg "_law_is_told" s_law_is_told ["streams", "record"] fto fdto) (G_law_is_told : FnG P w K mg base CX0 9 fto fdto ["streams", "record"] (spTold2 K C))
    (D_law_words_right : Def K mg "_law_words_right" s_law_words_right ["pot", "streams", "record"] fwr fdwr) (G_law_words_right : FnG P w K mg base CX0 6 fwr fdwr ["pot", "streams", "record"] (spWR K C))
    (M__eq__ : MethAt K C "__eq__" "Streams.__eq__" sStreams___eq__ ["self", "other"] feq fdeq) : FnG P w K mg base CX0 11 f fd ["pot"] spLRight := by
  obtain ⟨T, SC, IC, neO, MStreams, bStreams, gStreams, GStreams, Psources, Gsources, bsources, Psinks, Gsinks, bsinks, Pnames, Gnames, bnames⟩ := V
  have G_law_dip : FnOk P w K mg base CX0 1 fdip fddip ["pot", "total"] spDip := ok_dip T.toTxt D_law_dip
  have G__eq__ : FnOk P w K mg base CX0 1 feq fdeq ["self", "other"] (spEqP K C) := ok_eq T SC IC gStreams M__eq__
  have G__eqL__ : FnOk P w K mg base CX0 1 feq fdeq ["self", "other"] (spEqL C) := ok_eqL T SC nL gStreams M__eq__
  refine of_calm D.F sc_law_right (fun vs H Q E h => ?_) (fun cdv A quiet outer s H vs Q E hr h => ?_)
  · obtain ⟨a, rfl, _⟩ := h
    rfl
  · obtain ⟨a, rfl, pot, k⟩ := h
    have hu := hr.units
    have hq : Quiet (A.deeper (envOfC "_law_right" (defScope s_law_right) s.heap.objs.size f cdv)) := quiet
    refine ⟨_, (pss_cons (ps_set (i := 1) sc_law_right.nd rfl (by first | exact Or.inl rfl | exact Or.inr rfl) (pe_call G_law_parts (hr.mono (by decide)) (by rfl) D_law_parts.g D_law_parts.F.kp D_law_parts.b .nil pass0 (pa_cons (pv 0) (pa_cons pe_int pa_nil))))
 (pss_cons (ps_par (i := 2) (j := 3) (by rfl) sc_law_right.nd rfl rfl (by decide) rfl rfl (pa_cons (pe_make (E := E0) MStreams GStreams (hr.mono (by decide)) (by rfl) gStreams bStreams .nil passL (pa_cons (pe_ix (Z.k_item (K := K)) (pv 1) pe_int (fun _ _ => rfl)) (pa_cons (pe_ix (Z.k_item (K := K)) (pv 1) pe_int (fun _ _ => rfl)) pa_nil))) (pa_cons (pe_lst pa_nil) pa_nil)) (by rfl))
 (pss_cons (ps_for PassesOwn.never rfl (pi_range1 (by rfl) T.range (pa_cons (pe_op (Z.k_add (K := K)) pe_int (pe_call G_law_dip (hr.mono (by decide)) (by rfl) D_law_dip.g D_law_dip.F.kp D_law_dip.b .nil pass0 (pa_cons (pv 0) (pa_cons pe_int pa_nil)))) pa_nil)) (pg_name (i := 4) sc_law_right.nd rfl (by first | exact Or.inl rfl | exact Or.inr rfl))
  (pss_cons (ps_expr (Z.k_bm (K := K) PySem.F.plainAttrs_list PySem.F.slot_list_append PySem.F.type_list_append mt_append (pv 3) (pa_cons (pe_lst (pa_cons (pv 2) (pa_cons (pe_lst (pa_cons (pe_ix (Z.k_item (K := K)) (pv 1) pe_int (fun _ _ => rfl)) (pa_cons (pe_ix (Z.k_item (K := K)) (pv 1) pe_int (fun _ _ => rfl)) pa_nil))) pa_nil))) pa_nil)))
 (pss_cons (ps_asg (pe_call G_law_deed (hr.mono (by decide)) (by rfl) D_law_deed.g D_law_deed.F.kp D_law_deed.b .nil pass0 (pa_cons (pv 0) (pa_cons (pv 2) (pa_cons (pv 1) pa_nil)))) (Z.k_gl (K := K) (n := 2) rfl (pgs_cons (pg_name (i := 2) sc_law_right.nd rfl (by first | exact Or.inl rfl | exact Or.inr rfl)) (pgs_cons (pg_name (i := 1) sc_law_right.nd rfl (by first | exact Or.inl rfl | exact Or.inr rfl)) pgs_nil))))
 (pss_one (ps_if (PW.pt (pw_or (pt_cmpR (Z.k_eq (K := K) hu) (pv 1) (pe_lst pa_nil) (nomark _)) (pw_or (pt_not (pt_val (G.pe_callG G_law_is_told hq (hr.mono (by decide)) (by rfl) D_law_is_told.g D_law_is_told.F.kp D_law_is_told.b pass0 (pa_cons (pv 2) (pa_cons (pv 1) pa_nil))))) (pw_or1 (pt_not (pt_val (G.pe_callG G_law_words_right hq (hr.mono (by decide)) (by rfl) D_law_words_right.g D_law_words_right.F.kp D_law_words_right.b pass0 (pa_cons (pv 0) (pa_cons (pv 2) (pa_cons (pv 1) pa_nil))))))))))
  (pss_one (ps_ret pe_bl))
  pss_nil)))))
 (pss_cons (ps_for PassesOwn.never rfl (pi_list (pv 3)) (Z.k_gl (K := K) (n := 2) rfl (pgs_cons (pg_name (i := 5) sc_law_right.nd rfl (by first | exact Or.inl rfl | exact Or.inr rfl)) (pgs_cons (pg_name (i := 6) sc_law_right.nd rfl (by first | exact Or.inl rfl | exact Or.inr rfl)) pgs_nil)))
  (pss_one (ps_if (PW.pt (pw_or (pt_not (pt_val (G.pe_callG G_law_is_told hq (hr.mono (by decide)) (by rfl) D_law_is_told.g D_law_is_told.F.kp D_law_is_told.b pass0 (pa_cons (pv 5) (pa_cons (pv 6) pa_nil))))) (pw_or (pt_cmpR (Z.k_ne (K := K) hu) (pe_cmpR (Z.op_eqO G__eq__ (hr.mono (by decide)) M__eq__.at_ M__eq__.fn M__eq__.b pass0) (pv 5) (pv 2) (nomark _)) (pe_cmpR (Z.k_eq (K := K) hu) (pv 6) (pv 1) (nomark _)) (nomark _)) (pw_or1 (pt_cmpR (Z.op_eqL G__eqL__ (hr.mono (by decide)) M__eq__.at_ M__eq__.fn M__eq__.b pass0) (pv 5) (pv 6) (nomark _))))))
  (pss_one (ps_ret pe_bl))
  pss_nil)))
 (pss_one (ps_ret pe_bl)))))), ?_⟩
    walk_at "st"
    refine ⟨a, 3, rfl, pot, by decide, by decide, fun H1 r0 t1 t2 ps0 qs0 m1 nr hr1 dz dy parts => ?_⟩
    have sg0 := parts.strm (by decide)
    have ra : r0 ≠ a := Mv.ne pot (Mv.refl pot) nr
    walk_at "st"
    with_reducible refine s_make ?_
    walk_at "st"
    refine item (SqL.of hr1) (by rfl) ?_
    walk_at "st"
    refine item (SqL.of hr1) (by rfl) ?_
    walk_at "st"
    intro x0 dx0 nx ndx ne
    refine make_ok2 nx ndx ne (Dz.same same_hid _ _ dz) (Dz.same same_hid _ _ dy) sg0 fun H2 s2 st2 => ?_
    have m2 := Mv.of_same m1.pot s2
    walk_at "st"
    refine ⟨by show 0 ≤ sizeLine; decide, fun el nel => ?_⟩
    generalize e3 : upd H2 el _ = H3
    have m3 : Mv a H2 H3 := by rw [← e3]; exact (Mv.refl m2.pot).new nel
    have hel : H3 el = some (.lst []) := by rw [← e3]; exact upd_same
    have ela : el ≠ a := Mv.ne m2.pot (Mv.refl m2.pot) nel
    walk_at "st"
    refine ⟨a, 5, rfl, m3.pot, by decide, by decide, fun H4 n m4 n0 n1 => ?_⟩
    walk_at "st"
    have m34 := m3.trans m4
    refine ⟨by omega, by omega, loop walkR (fun i σ2 H5 => ∃ r x ps qs x4 x5 x6, σ2 = [some (.ref a), some (.ref r), some (.ref x), some (.ref el), x4, x5, x6] ∧ r ≠ el ∧ StAt K C (hid a H5) x ps qs ∧ Strm ps qs ∧ Rec K (hid a H5) r ps qs ∧ Mv a H2 H5 ∧ ∃ acc, H5 el = some (.lst acc) ∧ acc.length = i ∧ ∀ v ∈ acc, Eld K C (hid el (hid a H5)) v)
      ⟨r0, x0, ps0, qs0, _, _, _, rfl, ?_, ((keepT_pot m2.pot).st st2).mv m34, sg0, ⟨t1, t2, SqL.of (by rw [hid_ne ra]; exact (m2.trans m34).at ra hr1), dz.mv (m2.trans m34), dy.mv (m2.trans m34)⟩, m34, [], m4.at ela hel, rfl, fun v hv => nomatch hv⟩ (fun _ _ _ _ => trivial) ?_ ?_⟩
    · exact ne_of_none (s2 _ _ hr1) nel
    · rintro i xi σ2 H5 hi rfl ⟨r, x, ps, qs, x4, x5, x6, rfl, rel, st, sg, rec_, m5, acc, hacc, many, eld⟩
      obtain ⟨t1, t2, hL, dz, dy⟩ := id rec_
      walk_at "st"
      refine ⟨.inl ⟨rfl, _, SqL.of hacc⟩, ?_⟩
      walk_at "st"
      refine item (sql_unhid hL) (by rfl) ?_
      walk_at "st"
      refine item (sql_unhid hL) (by rfl) ?_
      refine ⟨by show 2 ≤ sizeLine; decide, fun p6 np6 => ?_⟩
      generalize egp6 : upd H5 p6 _ = H6
      obtain ⟨m6, _, n6, h6⟩ := at_newL (K := K) egp6 np6 m5.pot
      clear egp6
      walk_at "st"
      refine ⟨by show 2 ≤ sizeLine; decide, fun p7 np7 => ?_⟩
      generalize egp7 : upd H6 p7 _ = H7
      obtain ⟨m7, _, n7, h7⟩ := at_newL (K := K) egp7 np7 m6.pot
      clear egp7
      have m57 := m6.trans m7
      have hel7 := m57.at ela hacc
      have st7 := st.mv m57
      have rec7 := rec_.mv m57
      have e6 : p6 ≠ el := (ne_of_none hacc np6).symm
      have e7 : p7 ≠ el := (ne_of_none (m6.at ela hacc) np7).symm
      refine ⟨el, acc, .ref p7, rfl, rfl, hel7, by rw [sizeLine_eq]; omega, ?_⟩
      have h6' : hid el (hid a H7) p6 = some (.lst [.ref t1, .ref t2]) := by
        rw [hid_ne e6, hid_ne n6]
        exact m7.at n6 h6
      have kel : KeepT (hid a H7) (hid el (hid a H7)) := keepT_hid (by rw [hid_ne ela]; exact hel7)
      have eld7 : ∀ v ∈ acc ++ [V.ref p7], Eld K C (hid el (hid a H7)) v := by
        intro v hv
        rcases List.mem_append.mp hv with hv | hv
        · exact (eld v hv).same (same_hidden m57.same)
        · rw [List.mem_singleton.mp hv]
          exact ⟨p7, x, p6, ps, qs, _, rfl, by rw [hid_ne e7, hid_ne n7]; exact h7, kel.st st7, ⟨t1, t2, SqL.of h6', kel.dz (dz.mv m57), kel.dz (dy.mv m57)⟩, h6', sg⟩
      have kup := keepT_upd (o := .lst (acc ++ [V.ref p7])) hel7 ela
      have m28 : Mv a H2 (upd H7 el (.lst (acc ++ [V.ref p7]))) := (m5.trans m57).upd m2.pot nel
      have st8 := kup.st st7
      have rec8 : Rec K (hid a (upd H7 el (.lst (acc ++ [V.ref p7])))) r ps qs := kup.rec (same_upd_at rel) rec7
      have eld8 : ∀ v ∈ acc ++ [V.ref p7], Eld K C (hid el (hid a (upd H7 el (.lst (acc ++ [V.ref p7]))))) v := by
        rw [hid2_upd]
        exact eld7
      have hel8 : upd H7 el (.lst (acc ++ [V.ref p7])) el = some (.lst (acc ++ [V.ref p7])) := upd_same
      generalize upd H7 el (.lst (acc ++ [V.ref p7])) = H8 at m28 st8 rec8 eld8 hel8 ⊢
      walk_at "st"
      refine ⟨a, x, r, ps, qs, rfl, m28.pot, st8, sg, rec8, fun H9 p y r2 ps2 qs2 fresh m9 pa hp st9 rec9 sg9 => ?_⟩
      have rel2 : r2 ≠ el := by
        rcases fresh with h | h
        · exact (ne_of_none hel8 h).symm
        · rw [h]
          exact rel
      walk_at "st"
      refine ⟨p, _, rfl, SqL.of hp, rfl, ?_⟩
      walk_at "st"
      refine ⟨by show 0 ≤ sizeLine; decide, fun z nz => ?_⟩
      generalize egz : upd H9 z _ = H10
      obtain ⟨m10, _, nza, hz⟩ := at_newL (K := K) egz nz m9.pot
      clear egz
      refine eq_rec_nil (Rec.un (rec9.mv m10)) (SqL.of hz) sg9.good sg9.good2 ?_
      refine s_bl (P := _) ?_
      refine iteF ?_
      walk_at "st"
      refine ⟨y, r2, ps2, qs2, rfl, (st9.mv m10).un, sg9, Rec.un (rec9.mv m10), fun H11 s11 => ?_⟩
      have m11 := Mv.of_same m10.pot s11
      refine s_bl (P := _) ?_
      refine iteF ?_
      walk_at "st"
      have m911 := m10.trans m11
      refine ⟨a, y, r2, ps2, qs2, rfl, m11.pot, st9.mv m911, sg9, rec9.mv m911, fun H12 m12 => ?_⟩
      refine s_bl (P := _) ?_
      refine iteF ?_
      walk_at "st"
      have m912 := m911.trans m12
      have m812 := m9.trans m912
      exact ⟨r2, y, ps2, qs2, _, _, _, rfl, rel2, st9.mv m912, sg9, rec9.mv m912, m28.trans m812, _, m812.at ela hel8, by rw [List.length_append, many]; rfl, fun v hv => (eld8 v hv).same (same_hidden m812.same)⟩
    · rintro σ2 H5 ⟨r, x, ps, qs, x4, x5, x6, rfl, rel, st, sg, rec_, m5, acc, hacc, many, eld⟩
      walk_at "st"
      refine ⟨⟨_, SqL.of hacc⟩, loop (walkL (xs := acc)) (fun i σ2 H6 => (∃ x4 x5 x6, σ2 = [some (.ref a), some (.ref r), some (.ref x), some (.ref el), x4, x5, x6]) ∧ Same H5 H6) ⟨⟨_, _, _, rfl⟩, Same.refl H5⟩ (fun i σ2 H6 h => h.2.seq (SqL.of hacc)) ?_ ?_⟩
      · rintro i v σ2 H6 hi hv ⟨⟨x4, x5, x6, rfl⟩, s6⟩
        have m6 := Mv.of_same m5.pot s6
        obtain ⟨p, y, r2, ps2, qs2, xs, rfl, h1, st2', rec2, h4, sg2⟩ := ((eld v (List.mem_of_getElem? hv)).same same_hid).same (same_hid.trans s6)
        have st6 := st.un.same s6
        have rec6 : Rec K H6 r ps qs := (Rec.un rec_).same s6
        obtain ⟨dy2, _, _, _, _, _, hy, _⟩ := id st2'
        obtain ⟨dx2, _, _, _, _, _, hx, _⟩ := id st6
        walk_at "st"
        refine ⟨p, _, rfl, SqL.of h1, rfl, ?_⟩
        walk_at "st"
        refine ⟨y, r2, ps2, qs2, rfl, st2', sg2, rec2, fun H7 s7 => ?_⟩
        refine s_bl (P := _) ?_
        refine iteF ?_
        walk_at "st"
        refine ⟨y, x, dy2, dx2, _, _, rfl, rfl, s7 _ _ hy, s7 _ _ hx, y, x, ps2, qs2, ps, qs, rfl, st2'.same s7, st6.same s7, sg2.good, sg2.good2, sg.good, sg.good2, ?_⟩
        refine ⟨_, rfl, ?_⟩
        walk_at "st"
        refine eq_recs (rec2.same s7) (rec6.same s7) sg2.good sg2.good2 sg.good sg.good2 ?_
        walk_at "st"
        rw [show (!decide (decide (ps2 = ps ∧ qs2 = qs) = decide (ps2 = ps ∧ qs2 = qs))) = false from by rw [decide_eq_true rfl]; rfl]
        refine iteF ?_
        walk_at "st"
        refine ⟨y, r2, dy2, _, _, rfl, rfl, s7 _ _ hy, s7 _ _ h4, y, r2, dy2, _, _, rfl, s7 _ _ hy, s7 _ _ h4, ?_⟩
        refine ⟨_, rfl, ?_⟩
        refine s_bl (P := _) ?_
        refine iteF ?_
        walk_at "st"
        exact ⟨⟨_, _, _, rfl⟩, s6.trans s7⟩
      · rintro σ2 H6 ⟨⟨x4, x5, x6, rfl⟩, s6⟩
        walk_at "st"
        exact k H6 ((m1.trans (m2.trans m5)).trans (Mv.of_same m5.pot s6))
end
end
end Z
local macro_rules | `(tactic| walk_at "st") => `(tactic| repeat (first
  | ((with_reducible refine' Z.s_var ?h ?_); (case h => exact rfl))
  | with_reducible refine Z.s_c ?_
  | with_reducible refine Z.s_op ?_
  | with_reducible refine Z.s_un ?_
  | with_reducible refine Z.s_nil ?_
  | with_reducible refine Z.s_cons ?_
  | with_reducible refine Z.s_cb ?_
  | with_reducible refine Z.s_call ?_
  | with_reducible refine Z.s_tup ?_
  | with_reducible refine Z.s_lst ?_
  | with_reducible refine Z.s_test ?_
  | with_reducible refine Z.s_B ?_
  | with_reducible refine Z.s_and ?_
  | with_reducible refine Z.s_or ?_
  | with_reducible refine Z.s_not ?_
  | with_reducible refine Z.s_andV ?_
  | with_reducible refine Z.s_orV ?_
  | with_reducible refine Z.s_notV ?_
  | with_reducible refine Z.s_if ?_
  | with_reducible refine Z.s_chain ?_
  | with_reducible refine Z.s_seq ?_
  | with_reducible refine Z.s_next ?_
  | with_reducible refine Z.s_drop ?_
  | with_reducible refine Z.s_ret ?_
  | with_reducible refine Z.s_ifS ?_
  | with_reducible refine Z.s_asg ?_
  | with_reducible refine Z.s_name ?_
  | with_reducible refine Z.s_par ?_
  | with_reducible refine Z.s_item ?_
  | with_reducible refine Z.s_part ?_
  | with_reducible refine Z.s_noPart ?_
  | with_reducible refine Z.s_cut ?_
  | with_reducible refine Z.s_bm0 ?_
  | with_reducible refine Z.s_bm ?_
  | with_reducible refine Z.s_bl (P := _) ?_
  | with_reducible refine Z.s_two (P := _) ?_
  | with_reducible refine Z.s_int (P := _) ?_
  | with_reducible refine Z.a_addI ?_
  | with_reducible refine Z.a_subI ?_
  | with_reducible refine Z.a_ltI ?_
  | with_reducible refine Z.a_leI ?_
  | with_reducible refine Z.a_gtI ?_
  | with_reducible refine Z.a_geI ?_
  | with_reducible refine Z.a_eqI ?_
  | with_reducible refine Z.a_neI ?_
  | with_reducible refine Z.a_eqS ?_
  | with_reducible refine Z.a_neS ?_
  | with_reducible refine Z.a_eqB ?_
  | with_reducible refine Z.a_neB ?_
  | with_reducible refine Z.a_isN ?_
  | with_reducible refine Z.a_notN ?_
  | with_reducible refine Z.a_setL ?_
  | with_reducible refine Z.a_int ?_
  | with_reducible refine Z.a_intB ?_
  | with_reducible refine Z.a_abs ?_
  | with_reducible refine Z.a_max ?_
  | with_reducible refine Z.a_min ?_
  | with_reducible refine Z.s_lc ?_
  | with_reducible refine Z.s_for ?_
  | with_reducible refine Z.s_iList ?_
  | with_reducible refine Z.s_iTup ?_
  | with_reducible refine Z.s_iStr ?_
  | with_reducible refine Z.s_rng1 ?_
  | with_reducible refine Z.s_rng2 ?_
  | with_reducible refine Z.s_gtup ?_
  | with_reducible refine Z.s_gcons ?_
  | with_reducible refine Z.s_gnil ?_
  | with_reducible refine Z.s_yes ?_
  | with_reducible refine Z.s_ref (P := _) ?_
  | with_reducible refine Z.s_str (P := _) ?_
  | with_reducible refine Z.s_one (P := _) ?_
  | with_reducible refine Z.s_m1 ?_
  | with_reducible refine Z.s_m0 ?_
  | with_reducible refine Z.s_isStr ?_))
local macro_rules | `(tactic| walk_at "it") => `(tactic| repeat (first
  | with_reducible refine Z.s_name ?_
  | with_reducible refine Z.s_next ?_
  | with_reducible refine Z.s_seq ?_
  | with_reducible refine Z.s_asg ?_))
namespace Z
open PySem PySem.Spec PyProof.Rows L2 G
section
variable {P : Program} {w : World} {K : PySem.W.Frag} {mg : Str → Option Value} {base : Heap}
/-- a pot, filled by the script -/
def spFilled (K : PySem.W.Frag) : Sp := fun vs H Q _ => ∃ s, ∃ ns : List Int, ∃ n, vs = [.ref s, .int n] ∧ SqL K H s (ns.map V.int) ∧ 0 ≤ n ∧ n ≤ 100 ∧ ∀ p A B, H p = none → 0 ≤ A → 0 ≤ B → B < 2 ^ 61 → Q (.ref p) (upd H p (.lst [.int A, .int B, .int 0]))
/-- either way an int -/
theorem int_either {t : TT} {ta tb : TE} {σ : L2.St} {H : Hp} {Q : VK} {C : Prop} (q : ∀ S : Bool → Hp → Prop, (∀ b, (b = true → C) → S b H) → t σ H S) (yes : C → ∀ Q2 : VK, (∀ i, Q2 (.int i) H) → ta σ H Q2) (no : ∀ Q2 : VK, (∀ i, Q2 (.int i) H) → tb σ H Q2) (post : ∀ i, Q (.int i) H) : tIf t ta tb σ H Q := by
  refine q _ fun b c => ?_
  cases b with
  | true => exact iteT (yes (c rfl) Q post)
  | false => exact iteF (no Q post)
abbrev s_law_filled : Stmt := topS 22
theorem sc_law_filled : FnScope ["script", "at", "cell", "whole", "mixed"] ["script", "at"] (defScope s_law_filled) := ⟨rfl, rfl, rfl, by decide +kernel, rfl, by decide +kernel, by decide +kernel⟩
theorem ok_filled {f : Addr} {fd : FuncData} (T : Txt2 mg) (D : Def K mg "_law_filled" s_law_filled ["script", "at"] f fd) : FnOk P w K mg base CX0 1 f fd ["script", "at"] (spFilled K) := by
  refine D.F.ok sc_law_filled (fun vs H Q E h => ?_) (fun cdv A outer s H vs Q E hr h => ?_)
  · obtain ⟨s, ns, n, rfl, _⟩ := h
    rfl
  · obtain ⟨s, ns, n, rfl, hs, n0, n1, k⟩ := h
    have hu := hr.units
    refine ⟨_, (pss_cons (ps_set (i := 2) sc_law_filled.nd rfl (by first | exact Or.inl rfl | exact Or.inr rfl) (pe_ifExp (pt_cmpR Z.op_lt (pv 1) (pe_callB (Z.k_len (K := K)) (by rfl) T.len (by decide +kernel) (pa_cons (pv 0) pa_nil)) (nomark _)) (pe_ix (Z.k_item (K := K)) (pv 0) (pv 1) (fun _ _ => rfl)) (pe_op (Z.k_add (K := K)) (pe_op Z.op_mul pe_int (pv 1)) pe_int)))
 (pss_cons (ps_set (i := 3) sc_law_filled.nd rfl (by first | exact Or.inl rfl | exact Or.inr rfl) (pe_op Z.op_mod (pe_callTy Z.call_int (by rfl) T.int (by decide +kernel) (pa_cons (pe_callB Z.call_abs (by rfl) T.abs (by decide +kernel) (pa_cons (pv 2) pa_nil)) pa_nil)) (pe_op Z.op_pow (pe_op Z.op_pow pe_int pe_int) pe_int)))
 (pss_cons (ps_set (i := 4) sc_law_filled.nd rfl (by first | exact Or.inl rfl | exact Or.inr rfl) (pe_op Z.op_mod (pe_callTy Z.call_int (by rfl) T.int (by decide +kernel) (pa_cons (pe_op (Z.k_add (K := K)) (pe_op (Z.k_add (K := K)) (pe_op (Z.k_add (K := K)) (pv 3) (pe_op Z.op_mul pe_int (pv 1))) (pe_op Z.op_mul pe_int (pe_callTy Z.call_int (by rfl) T.int (by decide +kernel) (pa_cons (pe_cmpR Z.op_lt (pv 2) pe_int (nomark _)) pa_nil)))) pe_int) pa_nil)) pe_int))
 (pss_one (ps_ret (pe_lst (pa_cons (pe_callB (Z.call_max rfl) (by rfl) T.max (by decide +kernel) (pa_cons pe_int (pa_cons (pe_op Z.op_sub (pv 3) (pe_op Z.op_pow pe_int pe_int)) pa_nil))) (pa_cons (pv 4) (pa_cons pe_int pa_nil))))))))), ?_⟩
    repeat (first | with_reducible refine Z.s_name ?_ | with_reducible refine Z.s_seq ?_ | with_reducible refine Z.s_next ?_ | with_reducible refine Z.s_asg ?_)
    with_reducible refine int_either (C := n < ((ns.length : Nat) : Int)) ?_ ?_ ?_ ?_
    · intro S q
      walk_at "st"
      refine .inl ⟨_, .inl hs, ?_⟩
      walk_at "st"
      rw [List.length_map]
      exact q _ fun z => of_decide_eq_true z
    · intro lt Q2 post
      walk_at "st"
      have lt2 : n.toNat < (ns.map V.int).length := by
        rw [List.length_map]
        omega
      refine item hs (v := .int (ns[n.toNat]'(by rw [List.length_map] at lt2; exact lt2))) (atI_lt n0 ?_) (post _)
      rw [List.getElem?_map, List.getElem?_eq_getElem (by rw [List.length_map] at lt2; exact lt2)]
      rfl
    · intro Q2 post
      walk_at "st"
      refine a_mulI ⟨.inl (.inl ⟨by decide, by decide⟩), ?_⟩
      walk_at "st"
      exact post _
    intro cell
    walk_at "st"
    refine a_pow ⟨⟨by decide, by decide +kernel⟩, ?_⟩
    walk_at "st"
    refine a_pow ⟨⟨by decide, by decide +kernel⟩, ?_⟩
    have M0 : (0 : Int) < ((10 : Int) ^ (60 : Int).toNat) ^ (10 : Int).toNat := by decide +kernel
    generalize ((10 : Int) ^ (60 : Int).toNat) ^ (10 : Int).toNat = M at M0 ⊢
    refine a_mod ⟨M0, ?_⟩
    generalize (if cell < 0 then -cell else cell) % M = whole
    walk_at "st"
    refine a_mulI ⟨.inl (.inl ⟨by decide, by decide⟩), ?_⟩
    walk_at "st"
    refine a_mulI ⟨.inl (.inl ⟨by decide, by decide⟩), ?_⟩
    walk_at "st"
    refine a_mod ⟨by decide, ?_⟩
    generalize hB : (whole + 6700417 * n + 49979687 * _ + 211) % 2305843009213693921 = B
    have B0 : 0 ≤ B := by rw [← hB]; exact Int.emod_nonneg _ (by decide)
    have B1 : B < 2 ^ 61 := by
      have : B < 2305843009213693921 := by rw [← hB]; exact Int.emod_lt_of_pos _ (by decide)
      have e : (2 : Int) ^ 61 = 2305843009213693952 := by decide
      omega
    walk_at "st"
    refine a_pow ⟨⟨by decide, by decide +kernel⟩, ?_⟩
    walk_at "st"
    generalize hA : (if whole - 10 ^ (18 : Int).toNat > 0 then whole - 10 ^ (18 : Int).toNat else 0) = A2
    have A0 : 0 ≤ A2 := by
      rw [← hA]
      split <;> omega
    refine ⟨by show 3 ≤ sizeLine; decide, fun p np => ?_⟩
    exact k p A2 B np A0 B0 B1
def spLaw (K : PySem.W.Frag) : Sp := fun vs H Q _ => ∃ s, ∃ ns : List Int, vs = [.ref s] ∧ SqL K H s (ns.map V.int) ∧ ∀ H1, Q (.bl true) H1
/-- a new pot, and what becomes of it: all else stands -/
theorem same_pot {a : Addr} {H H2 H3 H4 : Hp} {A B : Int} (s : Same H H2) (na : H2 a = none) (e : H3 = upd H2 a (.lst [.int A, .int B, .int 0])) (m : Mv a H3 H4) : Same H H4 := by
  intro b o hb
  have hb2 := s b o hb
  have ne : b ≠ a := ne_of_none hb2 na
  refine m.at ne ?_
  rw [e, upd_ne ne]
  exact hb2
abbrev exP : List (Str × Str) := [("x", "a"), ("y", "b")]
abbrev exQ : List (Str × Str) := [("z", "ab")]
theorem s_pairs {tk tv : TE} {r : List (TE × TE)} {σ : L2.St} {H : Hp} {Q : List (V × V) → Hp → Prop} (q : tk σ H fun x H1 => tv σ H1 fun y H2 => tPairs r σ H2 fun ps H3 => Q ((x, y) :: ps) H3) : tPairs ((tk, tv) :: r) σ H Q := q
theorem s_pairs0 {σ : L2.St} {H : Hp} {Q : List (V × V) → Hp → Prop} (q : Q [] H) : tPairs [] σ H Q := q
abbrev exK : List (Key × V) := [(.inr "z", .str "x"), (.inr "x", .str "y"), (.inr "y", .str "z")]
theorem ex_new : NewN exK ((exP ++ exQ).map (·.1)) where
  len := rfl
  few := by decide
  at_ := by
    intro z hz
    have hz : z ∈ [Str.ofString "x", Str.ofString "y", Str.ofString "z"] := hz
    simp only [List.mem_cons, List.not_mem_nil, or_false] at hz
    rcases hz with rfl | rfl | rfl
    · exact ⟨by rfl, by decide +kernel⟩
    · exact ⟨by rfl, by decide +kernel⟩
    · exact ⟨by rfl, by decide +kernel⟩
  vals := ⟨["x", "y", "z"], by rfl, by decide +kernel⟩
theorem ex_merge : mergeK [] exK = exK := by
  have h := merge_new (kvs := exK) (acc := []) (by decide +kernel)
  rw [List.nil_append] at h
  exact h
abbrev exR : List (Str × Str) := [("y", "a"), ("z", "b")]
abbrev exL : List (Str × Str) := [("y", "b")]
abbrev exS : List (Str × Str) := [("x", "ab")]
theorem ex_ren : rnP exK exP = exR ∧ rnP exK exQ = exS := by decide +kernel
theorem ex_strm : Strm exP exQ := ⟨by decide, by decide, by decide, by decide +kernel, by unfold GoodP; decide +kernel, by unfold GoodP; decide +kernel⟩
abbrev slaw : Stmt := topS 40
theorem sclaw : FnScope ["script", "at", "pair", "turned", "told"] ["script"] (defScope slaw) := ⟨rfl, rfl, rfl, by decide +kernel, rfl, by decide +kernel, by decide +kernel⟩
section
variable {f ffl fri C CI CF fI feq fst frn fix fwo p1 p2 p3 f1 f2 f3 : Addr} {fd fdfl fdri fdI fdeq fdst fdrn fdix fdwo fd1 fd2 fd3 : FuncData}
theorem ok_law (V : Env2 P w K mg base C CI CF fI p1 p2 p3 f1 f2 f3 fdI fd1 fd2 fd3) (D : Def K mg "law" slaw ["script"] f fd) (D_law_filled : Def K mg "_law_filled" s_law_filled ["script", "at"] ffl fdfl)
    (D_law_right : Def K mg "_law_right" s_law_right ["pot"] fri fdri) (G_law_right : FnG P w K mg base CX0 11 fri fdri ["pot"] spLRight)
    (M__eq__ : MethAt K C "__eq__" "Streams.__eq__" sStreams___eq__ ["self", "other"] feq fdeq) (M__str__ : MethAt K C "__str__" "Streams.__str__" sStreams___str__ ["self"] fst fdst) (G__str__ : FnOk P w K mg base CX0 2 fst fdst ["self"] (spStrS K C))
    (Mrenamed : MethAt K C "renamed" "Streams.renamed" sStreams_renamed ["self", "names"] frn fdrn) (Grenamed : FnOk P w K mg base (L2.CX P w) 8 frn fdrn ["self", "names"] (spRen K C))
    (Mindex_of : MethAt K C "index_of" "Streams.index_of" sStreams_index_of ["self", "name"] fix fdix) (Gindex_of : FnOk P w K mg base CX0 3 fix fdix ["self", "name"] (spIdx K C))
    (Mwithout : MethAt K C "without" "Streams.without" sStreams_without ["self", "name"] fwo fdwo) (Gwithout : FnOk P w K mg base (L2.CX P w) 8 fwo fdwo ["self", "name"] (spLess K C CF)) : FnG P w K mg base CX0 12 f fd ["script"] (spLaw K) := by
  obtain ⟨T, SC, IC, neO, MStreams, bStreams, gStreams, GStreams, Psources, Gsources, bsources, Psinks, Gsinks, bsinks, Pnames, Gnames, bnames⟩ := V
  have G_law_filled : FnOk P w K mg base CX0 1 ffl fdfl ["script", "at"] (spFilled K) := ok_filled T D_law_filled
  have G__eq__ : FnOk P w K mg base CX0 1 feq fdeq ["self", "other"] (spEqP K C) := ok_eq T SC IC gStreams M__eq__
  refine of_calm D.F sclaw (fun vs H Q E h => ?_) (fun cdv A quiet outer s H vs Q E hr h => ?_)
  · obtain ⟨p, ns, rfl, _⟩ := h
    rfl
  · obtain ⟨p, ns, rfl, hp, k⟩ := h
    have hu := hr.units
    have hq : Quiet (A.deeper (envOfC "law" (defScope slaw) s.heap.objs.size f cdv)) := quiet
    refine ⟨_, (pss_cons (ps_for PassesOwn.never rfl (pi_range1 (by rfl) T.range (pa_cons (pe_callB (Z.call_max rfl) (by rfl) T.max (by decide +kernel) (pa_cons pe_int (pa_cons (pe_callB (Z.call_min rfl) (by rfl) T.min (by decide +kernel) (pa_cons pe_int (pa_cons (pe_callB (Z.k_len (K := K)) (by rfl) T.len (by decide +kernel) (pa_cons (pv 0) pa_nil)) pa_nil))) pa_nil))) pa_nil)) (pg_name (i := 1) sclaw.nd rfl (by first | exact Or.inl rfl | exact Or.inr rfl))
  (pss_one (ps_if (pt_not (pt_val (G.pe_callG G_law_right hq (hr.mono (by decide)) (by rfl) D_law_right.g D_law_right.F.kp D_law_right.b pass0 (pa_cons (pe_call G_law_filled (hr.mono (by decide)) (by rfl) D_law_filled.g D_law_filled.F.kp D_law_filled.b .nil pass0 (pa_cons (pv 0) (pa_cons (pv 1) pa_nil))) pa_nil))))
  (pss_one (ps_ret pe_bl))
  pss_nil)))
 (pss_cons (ps_set (i := 2) sclaw.nd rfl (by first | exact Or.inl rfl | exact Or.inr rfl) (pe_make (E := E0) MStreams GStreams (hr.mono (by decide)) (by rfl) gStreams bStreams .nil passL (pa_cons (pe_tup (pa_cons (pe_tup (pa_cons pe_str (pa_cons pe_str pa_nil))) (pa_cons (pe_tup (pa_cons pe_str (pa_cons pe_str pa_nil))) pa_nil))) (pa_cons (pe_tup (pa_cons (pe_tup (pa_cons pe_str (pa_cons pe_str pa_nil))) pa_nil)) pa_nil))))
 (pss_cons (ps_set (i := 3) sclaw.nd rfl (by first | exact Or.inl rfl | exact Or.inr rfl) (pe_meth (pv 2) SC.cl Mrenamed.meth Grenamed (hr.mono (by decide)) Mrenamed.b .nil passL (pa_cons (pe_disp (pps_cons pe_str pe_str (pps_cons pe_str pe_str (pps_cons pe_str pe_str pps_nil))) (by rfl) (by rfl) (fun z => by cases z) (by decide)) pa_nil)))
 (pss_cons (ps_set (i := 4) sclaw.nd rfl (by first | exact Or.inl rfl | exact Or.inr rfl) (pe_lst (pa_cons (pe_callTy (Z.call_strO G__str__ (hr.mono (by decide)) M__str__.at_ M__str__.fn M__str__.b pass0) (by rfl) T.str (by decide +kernel) (pa_cons (pv 3) pa_nil)) (pa_cons (pe_meth (pv 3) SC.cl Mindex_of.meth Gindex_of (hr.mono (by decide)) Mindex_of.b .nil pass0 (pa_cons pe_str pa_nil)) (pa_cons (pe_callTy (Z.call_strO G__str__ (hr.mono (by decide)) M__str__.at_ M__str__.fn M__str__.b pass0) (by rfl) T.str (by decide +kernel) (pa_cons (pe_meth (pv 2) SC.cl Mwithout.meth Gwithout (hr.mono (by decide)) Mwithout.b .nil passL (pa_cons pe_str pa_nil)) pa_nil)) (pa_cons (pe_callTy (Z.call_strO G__str__ (hr.mono (by decide)) M__str__.at_ M__str__.fn M__str__.b pass0) (by rfl) T.str (by decide +kernel) (pa_cons (pe_meth (pv 2) SC.cl Mwithout.meth Gwithout (hr.mono (by decide)) Mwithout.b .nil passL (pa_cons pe_str pa_nil)) pa_nil)) (pa_cons (pe_cmpR (Z.op_eqO G__eq__ (hr.mono (by decide)) M__eq__.at_ M__eq__.fn M__eq__.b pass0) (pv 2) (pv 3) (nomark _)) pa_nil)))))))
 (pss_one (ps_ret (pe_cmpR (Z.k_eq (K := K) hu) (pv 4) (pe_lst (pa_cons pe_str (pa_cons pe_int (pa_cons pe_str (pa_cons pe_str (pa_cons pe_bl pa_nil)))))) (nomark _)))))))), ?_⟩
    walk_at "st"
    refine .inl ⟨_, .inl hp, ?_⟩
    walk_at "st"
    generalize hM : (if (if ((ns.map V.int).length : Int) < 4 then ((ns.map V.int).length : Int) else 4) > 1 then (if ((ns.map V.int).length : Int) < 4 then ((ns.map V.int).length : Int) else 4) else 1) = M
    obtain ⟨M0, M1⟩ : 0 ≤ M ∧ M ≤ 4 := by
      rw [← hM]
      constructor
      · split <;> omega
      · split <;> split <;> omega
    refine ⟨by omega, by omega, loop walkR (fun i σ2 H2 => (∃ x1 x2 x3 x4, σ2 = [some (.ref p), x1, x2, x3, x4]) ∧ Same H H2) ⟨⟨_, _, _, _, rfl⟩, Same.refl H⟩ (fun _ _ _ _ => trivial) ?_ ?_⟩
    · rintro i x σ2 H2 hi rfl ⟨⟨x1, x2, x3, x4, rfl⟩, m⟩
      walk_at "st"
      refine ⟨p, ns, _, rfl, m.seq hp, by omega, by omega, fun a A2 B na A0 B0 B1 => ?_⟩
      generalize e3 : upd H2 a _ = H3
      have pot : Pot a H3 := by
        rw [← e3]
        exact ⟨A2, B, 0, upd_same, A0, B0, B1⟩
      walk_at "st"
      refine ⟨a, rfl, pot, fun H4 m4 => ?_⟩
      refine s_bl (P := _) ?_
      refine iteF ?_
      walk_at "st"
      exact ⟨⟨_, _, _, _, rfl⟩, same_pot m na e3.symm m4⟩
    · rintro σ2 H2 ⟨⟨x1, x2, x3, x4, rfl⟩, m⟩
      walk_at "st"
      with_reducible refine s_make ?_
      walk_at "st"
      refine ⟨by show 2 ≤ sizeLine; decide, fun w1 nw1 => ?_⟩
      generalize egw1 : upd H2 w1 _ = G1
      have k1 : Same H2 G1 := by rw [← egw1]; exact same_new (Same.refl H2) nw1
      have u1 : SqT K G1 w1 [.str (Str.ofString "x"), .str (Str.ofString "a")] := by rw [← egw1]; exact SqT.of upd_same
      clear egw1
      walk_at "st"
      refine ⟨by show 2 ≤ sizeLine; decide, fun w2 nw2 => ?_⟩
      generalize egw2 : upd G1 w2 _ = G2
      have k2 : Same G1 G2 := by rw [← egw2]; exact same_new (Same.refl G1) nw2
      have u2 : SqT K G2 w2 [.str (Str.ofString "y"), .str (Str.ofString "b")] := by rw [← egw2]; exact SqT.of upd_same
      clear egw2
      walk_at "st"
      refine ⟨by show 2 ≤ sizeLine; decide, fun w3 nw3 => ?_⟩
      generalize egw3 : upd G2 w3 _ = G3
      have k3 : Same G2 G3 := by rw [← egw3]; exact same_new (Same.refl G2) nw3
      have u3 : SqT K G3 w3 [.ref w1, .ref w2] := by rw [← egw3]; exact SqT.of upd_same
      clear egw3
      walk_at "st"
      refine ⟨by show 2 ≤ sizeLine; decide, fun w4 nw4 => ?_⟩
      generalize egw4 : upd G3 w4 _ = G4
      have k4 : Same G3 G4 := by rw [← egw4]; exact same_new (Same.refl G3) nw4
      have u4 : SqT K G4 w4 [.str (Str.ofString "z"), .str (Str.ofString "ab")] := by rw [← egw4]; exact SqT.of upd_same
      clear egw4
      walk_at "st"
      refine ⟨by show 1 ≤ sizeLine; decide, fun w5 nw5 => ?_⟩
      generalize egw5 : upd G4 w5 _ = G5
      have k5 : Same G4 G5 := by rw [← egw5]; exact same_new (Same.refl G4) nw5
      have u5 : SqT K G5 w5 [.ref w4] := by rw [← egw5]; exact SqT.of upd_same
      clear egw5
      walk_at "st"
      have dA : Dz K G5 (.ref w3) (.tuple (exP.map prD)) := .tup (same_sqt (k4.trans k5) u3) (.cons (.tup (same_sqt (((k2.trans k3).trans k4).trans k5) u1) (.cons (.str _) (.cons (.str _) .nil))) (.cons (.tup (same_sqt ((k3.trans k4).trans k5) u2) (.cons (.str _) (.cons (.str _) .nil))) .nil))
      have dB : Dz K G5 (.ref w5) (.tuple (exQ.map prD)) := .tup u5 (.cons (.tup (same_sqt k5 u4) (.cons (.str _) (.cons (.str _) .nil))) .nil)
      intro x dx nx ndx ne
      refine make_ok2 nx ndx ne dA dB ex_strm fun H6 s6 st6 => ?_
      obtain ⟨dx1, _, _, _, _, _, hx, _⟩ := id st6
      walk_at "st"
      with_reducible refine s_meth ?_
      walk_at "st"
      refine ⟨x, dx1, _, rfl, hx, sF_no (by decide +kernel) (by decide +kernel) (by decide +kernel) (by decide +kernel), ?_⟩
      walk_at "st"
      refine s_disp fun d nd => ?_
      refine s_pairs ?_
      walk_at "st"
      refine s_pairs ?_
      walk_at "st"
      refine s_pairs ?_
      walk_at "st"
      refine s_pairs0 ?_
      refine ⟨upd_same, exK, rfl, by decide, ?_⟩
      rw [ex_merge]
      generalize e8 : upd (upd H6 d _) d _ = H8
      have s8 : Same H6 H8 := by
        intro b o hb
        have nb : b ≠ d := ne_of_none hb nd
        rw [← e8, upd_ne nb, upd_ne nb]
        exact hb
      have hd : H8 d = some (.dK exK) := by rw [← e8]; exact upd_same
      clear e8
      walk_at "st"
      refine ⟨x, d, exP, exQ, exK, rfl, st6.same s8, ex_strm, hd, ex_new, fun H9 y s9 st9 => ?_⟩
      rw [ex_ren.1, ex_ren.2] at st9
      have s69 := s8.trans s9
      have stp := st6.same s69
      walk_at "st"
      obtain ⟨dy, _, _, _, _, _, hy, _⟩ := id st9
      have sg9 : Strm exR exS := ⟨by decide, by decide, by decide, by decide +kernel, by unfold GoodP; decide +kernel, by unfold GoodP; decide +kernel⟩
      refine ⟨y, dy, _, rfl, hy, y, exR, exS, rfl, st9, sg9.good, sg9.good2, sg9.few, sg9.few2, fun H10 s10 => ⟨_, rfl, ?_⟩⟩
      rw [show Txt.join (Str.ofString " ") (toldW exR exS) = Str.ofString "y:a z:b > x:ab" from by decide +kernel]
      walk_at "st"
      with_reducible refine s_meth ?_
      walk_at "st"
      refine ⟨y, dy, _, rfl, s10 _ _ hy, sF_no (by decide +kernel) (by decide +kernel) (by decide +kernel) (by decide +kernel), ?_⟩
      walk_at "st"
      refine ⟨y, exR, exS, 1, "z", "b", rfl, st9.same s10, strm_name sg9 rfl, ?_⟩
      rw [show (((if 1 < exR.length then 1 else 1 - exR.length : Nat)) : Int) = 1 from by decide]
      walk_at "st"
      with_reducible refine s_meth ?_
      walk_at "st"
      have s6A := s69.trans s10
      refine ⟨x, dx1, _, rfl, s6A _ _ hx, sF_no (by decide +kernel) (by decide +kernel) (by decide +kernel) (by decide +kernel), ?_⟩
      walk_at "st"
      refine ⟨x, exP, exQ, 0, "x", "a", rfl, st6.same s6A, ex_strm, strm_name ex_strm rfl, fun _ H11 q1 s11 st11 => ?_, fun e => absurd e (by decide +kernel)⟩
      rw [show less "x" exP = exL from by decide +kernel, show less "x" exQ = exQ from by decide +kernel] at st11
      obtain ⟨dq1, _, _, _, _, _, hq1, _⟩ := id st11
      walk_at "st"
      refine ⟨q1, dq1, _, rfl, hq1, q1, _, _, rfl, st11, by unfold GoodP; decide +kernel, by unfold GoodP; decide +kernel, by decide, by decide, fun H12 s12 => ⟨_, rfl, ?_⟩⟩
      rw [show Txt.join (Str.ofString " ") (toldW exL exQ) = Str.ofString "y:b > z:ab" from by decide +kernel]
      walk_at "st"
      with_reducible refine s_meth ?_
      walk_at "st"
      have s6B := s6A.trans (s11.trans s12)
      refine ⟨x, dx1, _, rfl, s6B _ _ hx, sF_no (by decide +kernel) (by decide +kernel) (by decide +kernel) (by decide +kernel), ?_⟩
      walk_at "st"
      refine ⟨x, exP, exQ, 2, "z", "ab", rfl, st6.same s6B, ex_strm, strm_name ex_strm rfl, fun _ H13 q2 s13 st13 => ?_, fun e => absurd e (by decide +kernel)⟩
      rw [show less "z" exP = exP from by decide +kernel, show less "z" exQ = [] from by decide +kernel] at st13
      obtain ⟨dq2, _, _, _, _, _, hq2, _⟩ := id st13
      walk_at "st"
      refine ⟨q2, dq2, _, rfl, hq2, q2, _, _, rfl, st13, by unfold GoodP; decide +kernel, by unfold GoodP; decide +kernel, by decide, by decide, fun H14 s14 => ⟨_, rfl, ?_⟩⟩
      rw [show Txt.join (Str.ofString " ") (toldW exP []) = Str.ofString "x:a y:b >" from by decide +kernel]
      walk_at "st"
      have s6C := s6B.trans (s13.trans s14)
      have s9C := (s10.trans (s11.trans s12)).trans (s13.trans s14)
      refine ⟨x, y, dx1, dy, _, _, rfl, rfl, s6C _ _ hx, s9C _ _ hy, x, y, exP, exQ, exR, exS, rfl, st6.same s6C, st9.same s9C, ex_strm.good, ex_strm.good2, sg9.good, sg9.good2, ?_⟩
      refine ⟨_, rfl, ?_⟩
      rw [show decide (exP = exR ∧ exQ = exS) = false from by decide +kernel]
      walk_at "st"
      refine ⟨by show 5 ≤ sizeLine; decide, fun l1 nl1 => ?_⟩
      generalize egl1 : upd H14 l1 _ = H15
      have k15 : Same H14 H15 := by rw [← egl1]; exact same_new (Same.refl H14) nl1
      have v1 : H15 l1 = some (.lst [.str (Str.ofString "y:a z:b > x:ab"), .int 1, .str (Str.ofString "y:b > z:ab"), .str (Str.ofString "x:a y:b >"), .bl false]) := by rw [← egl1]; exact upd_same
      clear egl1
      walk_at "st"
      refine ⟨by show 5 ≤ sizeLine; decide, fun l2 nl2 => ?_⟩
      generalize egl2 : upd H15 l2 _ = H16
      have k16 : Same H15 H16 := by rw [← egl2]; exact same_new (Same.refl H15) nl2
      have v2 : H16 l2 = some (.lst [.str (Str.ofString "y:a z:b > x:ab"), .int 1, .str (Str.ofString "y:b > z:ab"), .str (Str.ofString "x:a y:b >"), .bl false]) := by rw [← egl2]; exact upd_same
      clear egl2
      refine .inr ⟨.list [.str (Str.ofString "y:a z:b > x:ab"), .int 1, .str (Str.ofString "y:b > z:ab"), .str (Str.ofString "x:a y:b >"), .bool false], .list [.str (Str.ofString "y:a z:b > x:ab"), .int 1, .str (Str.ofString "y:b > z:ab"), .str (Str.ofString "x:a y:b >"), .bool false], .lst (SqL.of (k16 _ _ v1)) (.cons (.str _) (.cons (.int _) (.cons (.str _) (.cons (.str _) (.cons (.bl _) .nil))))), .lst (SqL.of v2) (.cons (.str _) (.cons (.int _) (.cons (.str _) (.cons (.str _) (.cons (.bl _) .nil))))), by decide +kernel, by decide +kernel, ?_⟩
      rw [show PyData.eqv (.list [.str (Str.ofString "y:a z:b > x:ab"), .int 1, .str (Str.ofString "y:b > z:ab"), .str (Str.ofString "x:a y:b >"), .bool false]) (.list [.str (Str.ofString "y:a z:b > x:ab"), .int 1, .str (Str.ofString "y:b > z:ab"), .str (Str.ofString "x:a y:b >"), .bool false]) = true from by decide +kernel]
      walk_at "st"
      exact k H16
end
end
end Z
namespace Z
open PySem PySem.Spec PyProof.Rows L2 G
/-- an error of the class at S is what «except S» names -/
theorem exm_self {K : PySem.W.Frag} {S : Addr} (h1 : PySem.W.subIn K (.ref S) (.type "BaseException") = some true) (h2 : PySem.W.isClsIn K S = true) (h3 : PySem.W.typeIn K (.ref S) = some (.type "type")) (h4 : PySem.W.subIn K (.ref S) (.ref S) = some true) :
    PySem.W.exmOne K (.ref S) (.ref S) = some true := by
  have a : (PySem.W.subIn K (.ref S) (.type "BaseException") == some true) = true := by
    rw [h1]
    rfl
  have b : ((PySem.W.clsIn K S).isSome && PySem.W.typeIn K (.ref S) == some (.type "type")) = true := by
    have c : (PySem.W.clsIn K S).isSome = true := h2
    rw [c, h3]
    rfl
  show (if _ then (if _ then PySem.W.subIn K (.ref S) (.ref S) else none) else none) = some true
  rw [if_pos a, if_pos b]
  exact h4
theorem all_mk {P : Program} {w : World} {K : PySem.W.Frag} {h : Heap} {mg : Str → Option Value} {fa : Addr} (X : K.In h) (G : h.Ns mainGlobals mg) (hfa : mg "law" = some (.ref fa))
    {C CI CF f0 f1 f2 f3 f4 f5 f6 f7 f8 f9 f10 f11 f12 f13 f14 f15 f16 f17 f18 f19 f20 f21 f22 f23 f24 f25 f26 f27 f28 f29 pp29 f30 pp30 f31 pp31 f32 f33 f34 f35 f36 f37 f38 f39 f40 f41 f42 f43 f44 f45 : Addr} {od0 an0 od1 an1 od2 an2 od3 an3 od4 an4 od5 an5 od6 an6 od7 an7 od8 an8 od9 an9 od10 an10 od11 an11 od12 an12 od13 an13 od14 an14 od15 an15 od16 an16 od17 an17 od18 an18 od19 an19 od20 an20 od21 an21 od22 an22 od23 an23 od24 an24 od25 an25 od26 an26 od27 an27 od28 an28 od29 an29 od30 an30 od31 an31 od32 an32 od33 an33 od34 an34 od35 an35 od36 an36 od37 an37 od38 an38 od39 an39 od40 an40 od41 an41 od42 an42 od43 an43 od44 an44 od45 an45 : Option Addr} {sl0 sl1 sl2 sl3 sl4 sl5 sl6 sl7 sl8 sl9 sl10 sl11 sl12 sl13 sl14 sl15 sl16 sl17 sl18 sl19 sl20 sl21 sl22 sl23 sl24 sl25 sl26 sl27 sl28 sl29 sl30 sl31 sl32 sl33 sl34 sl35 sl36 sl37 sl38 sl39 sl40 sl41 sl42 sl43 sl44 sl45 : Array (Option Value)} {oc0 kV0 dc0 pm0 cd0 ct0 oc1 kV1 dc1 pm1 cd1 ct1 oc2 kV2 dc2 pm2 cd2 ct2 oc3 kV3 dc3 pm3 cd3 ct3 oc4 kV4 dc4 pm4 cd4 ct4 oc5 kV5 dc5 pm5 cd5 ct5 oc6 kV6 dc6 pm6 cd6 ct6 oc7 kV7 dc7 pm7 cd7 ct7 oc8 kV8 dc8 pm8 cd8 ct8 oc9 kV9 dc9 pm9 cd9 ct9 oc10 kV10 dc10 pm10 cd10 ct10 oc11 kV11 dc11 pm11 cd11 ct11 oc12 kV12 dc12 pm12 cd12 ct12 oc13 kV13 dc13 pm13 cd13 ct13 oc14 kV14 dc14 pm14 cd14 ct14 oc15 kV15 dc15 pm15 cd15 ct15 oc16 kV16 dc16 pm16 cd16 ct16 oc17 kV17 dc17 pm17 cd17 ct17 oc18 kV18 dc18 pm18 cd18 ct18 oc19 kV19 dc19 pm19 cd19 ct19 oc20 kV20 dc20 pm20 cd20 ct20 oc21 kV21 dc21 pm21 cd21 ct21 oc22 kV22 dc22 pm22 cd22 ct22 oc23 kV23 dc23 pm23 cd23 ct23 oc24 kV24 dc24 pm24 cd24 ct24 oc25 kV25 dc25 pm25 cd25 ct25 oc26 kV26 dc26 pm26 cd26 ct26 oc27 kV27 dc27 pm27 cd27 ct27 oc28 kV28 dc28 pm28 cd28 ct28 oc29 kV29 dc29 pm29 cd29 ct29 oc30 kV30 dc30 pm30 cd30 ct30 oc31 kV31 dc31 pm31 cd31 ct31 oc32 kV32 dc32 pm32 cd32 ct32 oc33 kV33 dc33 pm33 cd33 ct33 oc34 kV34 dc34 pm34 cd34 ct34 oc35 kV35 dc35 pm35 cd35 ct35 oc36 kV36 dc36 pm36 cd36 ct36 oc37 kV37 dc37 pm37 cd37 ct37 oc38 kV38 dc38 pm38 cd38 ct38 oc39 kV39 dc39 pm39 cd39 ct39 oc40 kV40 dc40 pm40 cd40 ct40 oc41 kV41 dc41 pm41 cd41 ct41 oc42 kV42 dc42 pm42 cd42 ct42 oc43 kV43 dc43 pm43 cd43 ct43 oc44 kV44 dc44 pm44 cd44 ct44 oc45 kV45 dc45 pm45 cd45 ct45 : Value} {tk_MAX_NAME tk_MAX_SIGNS tk_MAX_KIND : Tok} {rest29 rest30 rest31 : List Value}
    (aC : PySem.W.nsIn K mainGlobals "Streams" = some (some (.ref C)))
    (aI : PySem.W.nsIn K mainGlobals "InvalidStreams" = some (some (.ref CI)))
    (aF : PySem.W.nsIn K mainGlobals "InvalidOperation" = some (some (.ref CF)))
    (a0 : PySem.W.nsIn K mainGlobals "law" = some (some (.ref f0)))
    (l0 : K.lookup f0 = some ⟨oc0, od0, .func (PySem.W.fnOf "law" "law" (defArgs slaw) (defBody slaw) (defScope slaw) .none kV0 dc0 pm0 an0 cd0 ct0), sl0⟩)
    (c0 : PySem.W.codeIn K cd0 "law" = true)
    (k0 : PySem.W.keepIn K (.ref f0) = true)
    (a1 : PySem.W.nsIn K mainGlobals "_law_filled" = some (some (.ref f1)))
    (l1 : K.lookup f1 = some ⟨oc1, od1, .func (PySem.W.fnOf "_law_filled" "_law_filled" (defArgs s_law_filled) (defBody s_law_filled) (defScope s_law_filled) .none kV1 dc1 pm1 an1 cd1 ct1), sl1⟩)
    (c1 : PySem.W.codeIn K cd1 "_law_filled" = true)
    (k1 : PySem.W.keepIn K (.ref f1) = true)
    (a2 : PySem.W.nsIn K mainGlobals "_law_right" = some (some (.ref f2)))
    (l2 : K.lookup f2 = some ⟨oc2, od2, .func (PySem.W.fnOf "_law_right" "_law_right" (defArgs s_law_right) (defBody s_law_right) (defScope s_law_right) .none kV2 dc2 pm2 an2 cd2 ct2), sl2⟩)
    (c2 : PySem.W.codeIn K cd2 "_law_right" = true)
    (k2 : PySem.W.keepIn K (.ref f2) = true)
    (a3 : PySem.W.nsIn K mainGlobals "_law_deed" = some (some (.ref f3)))
    (l3 : K.lookup f3 = some ⟨oc3, od3, .func (PySem.W.fnOf "_law_deed" "_law_deed" (defArgs s_law_deed) (defBody s_law_deed) (defScope s_law_deed) .none kV3 dc3 pm3 an3 cd3 ct3), sl3⟩)
    (c3 : PySem.W.codeIn K cd3 "_law_deed" = true)
    (k3 : PySem.W.keepIn K (.ref f3) = true)
    (a4 : PySem.W.nsIn K mainGlobals "_law_more" = some (some (.ref f4)))
    (l4 : K.lookup f4 = some ⟨oc4, od4, .func (PySem.W.fnOf "_law_more" "_law_more" (defArgs s_law_more) (defBody s_law_more) (defScope s_law_more) .none kV4 dc4 pm4 an4 cd4 ct4), sl4⟩)
    (c4 : PySem.W.codeIn K cd4 "_law_more" = true)
    (k4 : PySem.W.keepIn K (.ref f4) = true)
    (a5 : PySem.W.nsIn K mainGlobals "_law_less" = some (some (.ref f5)))
    (l5 : K.lookup f5 = some ⟨oc5, od5, .func (PySem.W.fnOf "_law_less" "_law_less" (defArgs s_law_less) (defBody s_law_less) (defScope s_law_less) .none kV5 dc5 pm5 an5 cd5 ct5), sl5⟩)
    (c5 : PySem.W.codeIn K cd5 "_law_less" = true)
    (k5 : PySem.W.keepIn K (.ref f5) = true)
    (a6 : PySem.W.nsIn K mainGlobals "_law_renamed" = some (some (.ref f6)))
    (l6 : K.lookup f6 = some ⟨oc6, od6, .func (PySem.W.fnOf "_law_renamed" "_law_renamed" (defArgs s_law_renamed) (defBody s_law_renamed) (defScope s_law_renamed) .none kV6 dc6 pm6 an6 cd6 ct6), sl6⟩)
    (c6 : PySem.W.codeIn K cd6 "_law_renamed" = true)
    (k6 : PySem.W.keepIn K (.ref f6) = true)
    (a7 : PySem.W.nsIn K mainGlobals "_law_words_right" = some (some (.ref f7)))
    (l7 : K.lookup f7 = some ⟨oc7, od7, .func (PySem.W.fnOf "_law_words_right" "_law_words_right" (defArgs s_law_words_right) (defBody s_law_words_right) (defScope s_law_words_right) .none kV7 dc7 pm7 an7 cd7 ct7), sl7⟩)
    (c7 : PySem.W.codeIn K cd7 "_law_words_right" = true)
    (k7 : PySem.W.keepIn K (.ref f7) = true)
    (a8 : PySem.W.nsIn K mainGlobals "_law_is_told" = some (some (.ref f8)))
    (l8 : K.lookup f8 = some ⟨oc8, od8, .func (PySem.W.fnOf "_law_is_told" "_law_is_told" (defArgs s_law_is_told) (defBody s_law_is_told) (defScope s_law_is_told) .none kV8 dc8 pm8 an8 cd8 ct8), sl8⟩)
    (c8 : PySem.W.codeIn K cd8 "_law_is_told" = true)
    (k8 : PySem.W.keepIn K (.ref f8) = true)
    (a9 : PySem.W.nsIn K mainGlobals "_law_text" = some (some (.ref f9)))
    (l9 : K.lookup f9 = some ⟨oc9, od9, .func (PySem.W.fnOf "_law_text" "_law_text" (defArgs s_law_text) (defBody s_law_text) (defScope s_law_text) .none kV9 dc9 pm9 an9 cd9 ct9), sl9⟩)
    (c9 : PySem.W.codeIn K cd9 "_law_text" = true)
    (k9 : PySem.W.keepIn K (.ref f9) = true)
    (a10 : PySem.W.nsIn K mainGlobals "_law_word" = some (some (.ref f10)))
    (l10 : K.lookup f10 = some ⟨oc10, od10, .func (PySem.W.fnOf "_law_word" "_law_word" (defArgs s_law_word) (defBody s_law_word) (defScope s_law_word) .none kV10 dc10 pm10 an10 cd10 ct10), sl10⟩)
    (c10 : PySem.W.codeIn K cd10 "_law_word" = true)
    (k10 : PySem.W.keepIn K (.ref f10) = true)
    (a11 : PySem.W.nsIn K mainGlobals "_law_parts" = some (some (.ref f11)))
    (l11 : K.lookup f11 = some ⟨oc11, od11, .func (PySem.W.fnOf "_law_parts" "_law_parts" (defArgs s_law_parts) (defBody s_law_parts) (defScope s_law_parts) .none kV11 dc11 pm11 an11 cd11 ct11), sl11⟩)
    (c11 : PySem.W.codeIn K cd11 "_law_parts" = true)
    (k11 : PySem.W.keepIn K (.ref f11) = true)
    (a12 : PySem.W.nsIn K mainGlobals "_law_signs" = some (some (.ref f12)))
    (l12 : K.lookup f12 = some ⟨oc12, od12, .func (PySem.W.fnOf "_law_signs" "_law_signs" (defArgs s_law_signs) (defBody s_law_signs) (defScope s_law_signs) .none kV12 dc12 pm12 an12 cd12 ct12), sl12⟩)
    (c12 : PySem.W.codeIn K cd12 "_law_signs" = true)
    (k12 : PySem.W.keepIn K (.ref f12) = true)
    (a13 : PySem.W.nsIn K mainGlobals "_law_names" = some (some (.ref f13)))
    (l13 : K.lookup f13 = some ⟨oc13, od13, .func (PySem.W.fnOf "_law_names" "_law_names" (defArgs s_law_names) (defBody s_law_names) (defScope s_law_names) .none kV13 dc13 pm13 an13 cd13 ct13), sl13⟩)
    (c13 : PySem.W.codeIn K cd13 "_law_names" = true)
    (k13 : PySem.W.keepIn K (.ref f13) = true)
    (a14 : PySem.W.nsIn K mainGlobals "_law_free" = some (some (.ref f14)))
    (l14 : K.lookup f14 = some ⟨oc14, od14, .func (PySem.W.fnOf "_law_free" "_law_free" (defArgs s_law_free) (defBody s_law_free) (defScope s_law_free) .none kV14 dc14 pm14 an14 cd14 ct14), sl14⟩)
    (c14 : PySem.W.codeIn K cd14 "_law_free" = true)
    (k14 : PySem.W.keepIn K (.ref f14) = true)
    (a15 : PySem.W.nsIn K mainGlobals "_law_name" = some (some (.ref f15)))
    (l15 : K.lookup f15 = some ⟨oc15, od15, .func (PySem.W.fnOf "_law_name" "_law_name" (defArgs s_law_name) (defBody s_law_name) (defScope s_law_name) .none kV15 dc15 pm15 an15 cd15 ct15), sl15⟩)
    (c15 : PySem.W.codeIn K cd15 "_law_name" = true)
    (k15 : PySem.W.keepIn K (.ref f15) = true)
    (a16 : PySem.W.nsIn K mainGlobals "_law_shuffled" = some (some (.ref f16)))
    (l16 : K.lookup f16 = some ⟨oc16, od16, .func (PySem.W.fnOf "_law_shuffled" "_law_shuffled" (defArgs s_law_shuffled) (defBody s_law_shuffled) (defScope s_law_shuffled) .none kV16 dc16 pm16 an16 cd16 ct16), sl16⟩)
    (c16 : PySem.W.codeIn K cd16 "_law_shuffled" = true)
    (k16 : PySem.W.keepIn K (.ref f16) = true)
    (a17 : PySem.W.nsIn K mainGlobals "_law_choose" = some (some (.ref f17)))
    (l17 : K.lookup f17 = some ⟨oc17, od17, .func (PySem.W.fnOf "_law_choose" "_law_choose" (defArgs s_law_choose) (defBody s_law_choose) (defScope s_law_choose) .none kV17 dc17 pm17 an17 cd17 ct17), sl17⟩)
    (c17 : PySem.W.codeIn K cd17 "_law_choose" = true)
    (k17 : PySem.W.keepIn K (.ref f17) = true)
    (a18 : PySem.W.nsIn K mainGlobals "_law_dip" = some (some (.ref f18)))
    (l18 : K.lookup f18 = some ⟨oc18, od18, .func (PySem.W.fnOf "_law_dip" "_law_dip" (defArgs s_law_dip) (defBody s_law_dip) (defScope s_law_dip) .none kV18 dc18 pm18 an18 cd18 ct18), sl18⟩)
    (c18 : PySem.W.codeIn K cd18 "_law_dip" = true)
    (k18 : PySem.W.keepIn K (.ref f18) = true)
    (a19 : PySem.W.nsIn K mainGlobals "_told" = some (some (.ref f19)))
    (l19 : K.lookup f19 = some ⟨oc19, od19, .func (PySem.W.fnOf "_told" "_told" (defArgs s_told) (defBody s_told) (defScope s_told) .none kV19 dc19 pm19 an19 cd19 ct19), sl19⟩)
    (c19 : PySem.W.codeIn K cd19 "_told" = true)
    (k19 : PySem.W.keepIn K (.ref f19) = true)
    (a20 : PySem.W.nsIn K mainGlobals "_are_words" = some (some (.ref f20)))
    (l20 : K.lookup f20 = some ⟨oc20, od20, .func (PySem.W.fnOf "_are_words" "_are_words" (defArgs s_are_words) (defBody s_are_words) (defScope s_are_words) .none kV20 dc20 pm20 an20 cd20 ct20), sl20⟩)
    (c20 : PySem.W.codeIn K cd20 "_are_words" = true)
    (k20 : PySem.W.keepIn K (.ref f20) = true)
    (a21 : PySem.W.nsIn K mainGlobals "_are_streams" = some (some (.ref f21)))
    (l21 : K.lookup f21 = some ⟨oc21, od21, .func (PySem.W.fnOf "_are_streams" "_are_streams" (defArgs s_are_streams) (defBody s_are_streams) (defScope s_are_streams) .none kV21 dc21 pm21 an21 cd21 ct21), sl21⟩)
    (c21 : PySem.W.codeIn K cd21 "_are_streams" = true)
    (k21 : PySem.W.keepIn K (.ref f21) = true)
    (a22 : PySem.W.nsIn K mainGlobals "_are_kind" = some (some (.ref f22)))
    (l22 : K.lookup f22 = some ⟨oc22, od22, .func (PySem.W.fnOf "_are_kind" "_are_kind" (defArgs s_are_kind) (defBody s_are_kind) (defScope s_are_kind) .none kV22 dc22 pm22 an22 cd22 ct22), sl22⟩)
    (c22 : PySem.W.codeIn K cd22 "_are_kind" = true)
    (k22 : PySem.W.keepIn K (.ref f22) = true)
    (a23 : PySem.W.nsIn K mainGlobals "_is_stream" = some (some (.ref f23)))
    (l23 : K.lookup f23 = some ⟨oc23, od23, .func (PySem.W.fnOf "_is_stream" "_is_stream" (defArgs s_is_stream) (defBody s_is_stream) (defScope s_is_stream) .none kV23 dc23 pm23 an23 cd23 ct23), sl23⟩)
    (c23 : PySem.W.codeIn K cd23 "_is_stream" = true)
    (k23 : PySem.W.keepIn K (.ref f23) = true)
    (a24 : PySem.W.nsIn K mainGlobals "is_word" = some (some (.ref f24)))
    (l24 : K.lookup f24 = some ⟨oc24, od24, .func (PySem.W.fnOf "is_word" "is_word" (defArgs sis_word) (defBody sis_word) (defScope sis_word) .none kV24 dc24 pm24 an24 cd24 ct24), sl24⟩)
    (c24 : PySem.W.codeIn K cd24 "is_word" = true)
    (k24 : PySem.W.keepIn K (.ref f24) = true)
    (a25 : PySem.W.nsIn K mainGlobals "is_name" = some (some (.ref f25)))
    (l25 : K.lookup f25 = some ⟨oc25, od25, .func (PySem.W.fnOf "is_name" "is_name" (defArgs sis_name) (defBody sis_name) (defScope sis_name) .none kV25 dc25 pm25 an25 cd25 ct25), sl25⟩)
    (c25 : PySem.W.codeIn K cd25 "is_name" = true)
    (k25 : PySem.W.keepIn K (.ref f25) = true)
    (a26 : PySem.W.nsIn K mainGlobals "is_signs" = some (some (.ref f26)))
    (l26 : K.lookup f26 = some ⟨oc26, od26, .func (PySem.W.fnOf "is_signs" "is_signs" (defArgs sis_signs) (defBody sis_signs) (defScope sis_signs) .none kV26 dc26 pm26 an26 cd26 ct26), sl26⟩)
    (c26 : PySem.W.codeIn K cd26 "is_signs" = true)
    (k26 : PySem.W.keepIn K (.ref f26) = true)
    (a27 : PySem.W.nsIn K mainGlobals "are_letters" = some (some (.ref f27)))
    (l27 : K.lookup f27 = some ⟨oc27, od27, .func (PySem.W.fnOf "are_letters" "are_letters" (defArgs sare_letters) (defBody sare_letters) (defScope sare_letters) .none kV27 dc27 pm27 an27 cd27 ct27), sl27⟩)
    (c27 : PySem.W.codeIn K cd27 "are_letters" = true)
    (k27 : PySem.W.keepIn K (.ref f27) = true)
    (a28 : PySem.W.findIn K (.ref C) "__init__" = some (some (.ref f28)))
    (i28 : PySem.W.isFn K (.ref f28) = true)
    (l28 : K.lookup f28 = some ⟨oc28, od28, .func (PySem.W.fnOf "__init__" "Streams.__init__" (defArgs sStreams___init__) (defBody sStreams___init__) (defScope sStreams___init__) .none kV28 dc28 pm28 an28 cd28 ct28), sl28⟩)
    (c28 : PySem.W.codeIn K cd28 "Streams.__init__" = true)
    (k28 : PySem.W.keepIn K (.ref f28) = true)
    (a29 : PySem.W.findIn K (.ref C) "sources" = some (some (.ref pp29)))
    (g29 : PySem.W.specialIn K (.ref pp29) "__get__" = some (some (.builtin "property.__get__")))
    (t29 : PySem.W.takesIn K (.ref pp29) = some true)
    (r29 : PySem.W.recIn K pp29 "property" = some (.ref f29 :: rest29))
    (l29 : K.lookup f29 = some ⟨oc29, od29, .func (PySem.W.fnOf "sources" "Streams.sources" (defArgs sStreams_sources) (defBody sStreams_sources) (defScope sStreams_sources) .none kV29 dc29 pm29 an29 cd29 ct29), sl29⟩)
    (c29 : PySem.W.codeIn K cd29 "Streams.sources" = true)
    (k29 : PySem.W.keepIn K (.ref f29) = true)
    (a30 : PySem.W.findIn K (.ref C) "sinks" = some (some (.ref pp30)))
    (g30 : PySem.W.specialIn K (.ref pp30) "__get__" = some (some (.builtin "property.__get__")))
    (t30 : PySem.W.takesIn K (.ref pp30) = some true)
    (r30 : PySem.W.recIn K pp30 "property" = some (.ref f30 :: rest30))
    (l30 : K.lookup f30 = some ⟨oc30, od30, .func (PySem.W.fnOf "sinks" "Streams.sinks" (defArgs sStreams_sinks) (defBody sStreams_sinks) (defScope sStreams_sinks) .none kV30 dc30 pm30 an30 cd30 ct30), sl30⟩)
    (c30 : PySem.W.codeIn K cd30 "Streams.sinks" = true)
    (k30 : PySem.W.keepIn K (.ref f30) = true)
    (a31 : PySem.W.findIn K (.ref C) "names" = some (some (.ref pp31)))
    (g31 : PySem.W.specialIn K (.ref pp31) "__get__" = some (some (.builtin "property.__get__")))
    (t31 : PySem.W.takesIn K (.ref pp31) = some true)
    (r31 : PySem.W.recIn K pp31 "property" = some (.ref f31 :: rest31))
    (l31 : K.lookup f31 = some ⟨oc31, od31, .func (PySem.W.fnOf "names" "Streams.names" (defArgs sStreams_names) (defBody sStreams_names) (defScope sStreams_names) .none kV31 dc31 pm31 an31 cd31 ct31), sl31⟩)
    (c31 : PySem.W.codeIn K cd31 "Streams.names" = true)
    (k31 : PySem.W.keepIn K (.ref f31) = true)
    (a32 : PySem.W.findIn K (.ref C) "signs_of" = some (some (.ref f32)))
    (i32 : PySem.W.isFn K (.ref f32) = true)
    (l32 : K.lookup f32 = some ⟨oc32, od32, .func (PySem.W.fnOf "signs_of" "Streams.signs_of" (defArgs sStreams_signs_of) (defBody sStreams_signs_of) (defScope sStreams_signs_of) .none kV32 dc32 pm32 an32 cd32 ct32), sl32⟩)
    (c32 : PySem.W.codeIn K cd32 "Streams.signs_of" = true)
    (k32 : PySem.W.keepIn K (.ref f32) = true)
    (a33 : PySem.W.findIn K (.ref C) "is_source" = some (some (.ref f33)))
    (i33 : PySem.W.isFn K (.ref f33) = true)
    (l33 : K.lookup f33 = some ⟨oc33, od33, .func (PySem.W.fnOf "is_source" "Streams.is_source" (defArgs sStreams_is_source) (defBody sStreams_is_source) (defScope sStreams_is_source) .none kV33 dc33 pm33 an33 cd33 ct33), sl33⟩)
    (c33 : PySem.W.codeIn K cd33 "Streams.is_source" = true)
    (k33 : PySem.W.keepIn K (.ref f33) = true)
    (a34 : PySem.W.findIn K (.ref C) "index_of" = some (some (.ref f34)))
    (i34 : PySem.W.isFn K (.ref f34) = true)
    (l34 : K.lookup f34 = some ⟨oc34, od34, .func (PySem.W.fnOf "index_of" "Streams.index_of" (defArgs sStreams_index_of) (defBody sStreams_index_of) (defScope sStreams_index_of) .none kV34 dc34 pm34 an34 cd34 ct34), sl34⟩)
    (c34 : PySem.W.codeIn K cd34 "Streams.index_of" = true)
    (k34 : PySem.W.keepIn K (.ref f34) = true)
    (a35 : PySem.W.findIn K (.ref C) "is_content" = some (some (.ref f35)))
    (i35 : PySem.W.isFn K (.ref f35) = true)
    (l35 : K.lookup f35 = some ⟨oc35, od35, .func (PySem.W.fnOf "is_content" "Streams.is_content" (defArgs sStreams_is_content) (defBody sStreams_is_content) (defScope sStreams_is_content) .none kV35 dc35 pm35 an35 cd35 ct35), sl35⟩)
    (c35 : PySem.W.codeIn K cd35 "Streams.is_content" = true)
    (k35 : PySem.W.keepIn K (.ref f35) = true)
    (a36 : PySem.W.findIn K (.ref C) "is_filling" = some (some (.ref f36)))
    (i36 : PySem.W.isFn K (.ref f36) = true)
    (l36 : K.lookup f36 = some ⟨oc36, od36, .func (PySem.W.fnOf "is_filling" "Streams.is_filling" (defArgs sStreams_is_filling) (defBody sStreams_is_filling) (defScope sStreams_is_filling) .none kV36 dc36 pm36 an36 cd36 ct36), sl36⟩)
    (c36 : PySem.W.codeIn K cd36 "Streams.is_filling" = true)
    (k36 : PySem.W.keepIn K (.ref f36) = true)
    (a37 : PySem.W.findIn K (.ref C) "steps_of" = some (some (.ref f37)))
    (i37 : PySem.W.isFn K (.ref f37) = true)
    (l37 : K.lookup f37 = some ⟨oc37, od37, .func (PySem.W.fnOf "steps_of" "Streams.steps_of" (defArgs sStreams_steps_of) (defBody sStreams_steps_of) (defScope sStreams_steps_of) .none kV37 dc37 pm37 an37 cd37 ct37), sl37⟩)
    (c37 : PySem.W.codeIn K cd37 "Streams.steps_of" = true)
    (k37 : PySem.W.keepIn K (.ref f37) = true)
    (a38 : PySem.W.findIn K (.ref C) "renamed" = some (some (.ref f38)))
    (i38 : PySem.W.isFn K (.ref f38) = true)
    (l38 : K.lookup f38 = some ⟨oc38, od38, .func (PySem.W.fnOf "renamed" "Streams.renamed" (defArgs sStreams_renamed) (defBody sStreams_renamed) (defScope sStreams_renamed) .none kV38 dc38 pm38 an38 cd38 ct38), sl38⟩)
    (c38 : PySem.W.codeIn K cd38 "Streams.renamed" = true)
    (k38 : PySem.W.keepIn K (.ref f38) = true)
    (a39 : PySem.W.findIn K (.ref C) "_are_new_names" = some (some (.ref f39)))
    (i39 : PySem.W.isFn K (.ref f39) = true)
    (l39 : K.lookup f39 = some ⟨oc39, od39, .func (PySem.W.fnOf "_are_new_names" "Streams._are_new_names" (defArgs sStreams__are_new_names) (defBody sStreams__are_new_names) (defScope sStreams__are_new_names) .none kV39 dc39 pm39 an39 cd39 ct39), sl39⟩)
    (c39 : PySem.W.codeIn K cd39 "Streams._are_new_names" = true)
    (k39 : PySem.W.keepIn K (.ref f39) = true)
    (a40 : PySem.W.findIn K (.ref C) "without" = some (some (.ref f40)))
    (i40 : PySem.W.isFn K (.ref f40) = true)
    (l40 : K.lookup f40 = some ⟨oc40, od40, .func (PySem.W.fnOf "without" "Streams.without" (defArgs sStreams_without) (defBody sStreams_without) (defScope sStreams_without) .none kV40 dc40 pm40 an40 cd40 ct40), sl40⟩)
    (c40 : PySem.W.codeIn K cd40 "Streams.without" = true)
    (k40 : PySem.W.keepIn K (.ref f40) = true)
    (a41 : PySem.W.findIn K (.ref C) "__add__" = some (some (.ref f41)))
    (i41 : PySem.W.isFn K (.ref f41) = true)
    (l41 : K.lookup f41 = some ⟨oc41, od41, .func (PySem.W.fnOf "__add__" "Streams.__add__" (defArgs sStreams___add__) (defBody sStreams___add__) (defScope sStreams___add__) .none kV41 dc41 pm41 an41 cd41 ct41), sl41⟩)
    (c41 : PySem.W.codeIn K cd41 "Streams.__add__" = true)
    (k41 : PySem.W.keepIn K (.ref f41) = true)
    (a42 : PySem.W.findIn K (.ref C) "__contains__" = some (some (.ref f42)))
    (i42 : PySem.W.isFn K (.ref f42) = true)
    (l42 : K.lookup f42 = some ⟨oc42, od42, .func (PySem.W.fnOf "__contains__" "Streams.__contains__" (defArgs sStreams___contains__) (defBody sStreams___contains__) (defScope sStreams___contains__) .none kV42 dc42 pm42 an42 cd42 ct42), sl42⟩)
    (c42 : PySem.W.codeIn K cd42 "Streams.__contains__" = true)
    (k42 : PySem.W.keepIn K (.ref f42) = true)
    (a43 : PySem.W.findIn K (.ref C) "__len__" = some (some (.ref f43)))
    (i43 : PySem.W.isFn K (.ref f43) = true)
    (l43 : K.lookup f43 = some ⟨oc43, od43, .func (PySem.W.fnOf "__len__" "Streams.__len__" (defArgs sStreams___len__) (defBody sStreams___len__) (defScope sStreams___len__) .none kV43 dc43 pm43 an43 cd43 ct43), sl43⟩)
    (c43 : PySem.W.codeIn K cd43 "Streams.__len__" = true)
    (k43 : PySem.W.keepIn K (.ref f43) = true)
    (a44 : PySem.W.findIn K (.ref C) "__eq__" = some (some (.ref f44)))
    (i44 : PySem.W.isFn K (.ref f44) = true)
    (l44 : K.lookup f44 = some ⟨oc44, od44, .func (PySem.W.fnOf "__eq__" "Streams.__eq__" (defArgs sStreams___eq__) (defBody sStreams___eq__) (defScope sStreams___eq__) .none kV44 dc44 pm44 an44 cd44 ct44), sl44⟩)
    (c44 : PySem.W.codeIn K cd44 "Streams.__eq__" = true)
    (k44 : PySem.W.keepIn K (.ref f44) = true)
    (a45 : PySem.W.findIn K (.ref C) "__str__" = some (some (.ref f45)))
    (i45 : PySem.W.isFn K (.ref f45) = true)
    (l45 : K.lookup f45 = some ⟨oc45, od45, .func (PySem.W.fnOf "__str__" "Streams.__str__" (defArgs sStreams___str__) (defBody sStreams___str__) (defScope sStreams___str__) .none kV45 dc45 pm45 an45 cd45 ct45), sl45⟩)
    (c45 : PySem.W.codeIn K cd45 "Streams.__str__" = true)
    (k45 : PySem.W.keepIn K (.ref f45) = true)
    (pg : PySem.W.plainGet K C Str.empty = true)
    (hd : PySem.W.hasDictIn K C = true)
    (po : PySem.W.plainOver K C = true)
    (sa : PySem.W.findIn K (.ref C) "__setattr__" = some (some (.builtin "object.__setattr__")))
    (mk : PySem.W.makesIn K C = true)
    (kc : PySem.W.keepIn K (.ref C) = true)
    (n1 : PySem.W.findIn K (.ref C) "_sources" = some none)
    (n2 : PySem.W.findIn K (.ref C) "_sinks" = some none)
    (n3 : PySem.W.findIn K (.ref C) "_names" = some none)
    (n4 : PySem.W.findIn K (.ref C) "_signs" = some none)
    (xI : PySem.W.excIn K CI [.type "ValueError", .type "Exception", .type "BaseException", .type "object"] "ValueError.__new__" = true)
    (kI : PySem.W.keepIn K (.ref CI) = true)
    (bI : PySem.W.subIn K (.ref CI) (.type "BaseException") = some true)
    (tI : PySem.W.typeIn K (.ref CI) = some (.type "type"))
    (iI : PySem.W.isClsIn K CI = true)
    (sI : PySem.W.subIn K (.ref CI) (.ref CI) = some true)
    (xF : PySem.W.excIn K CF [.type "ValueError", .type "Exception", .type "BaseException", .type "object"] "ValueError.__new__" = true)
    (kF : PySem.W.keepIn K (.ref CF) = true)
    (bF : PySem.W.subIn K (.ref CF) (.type "BaseException") = some true)
    (tF : PySem.W.typeIn K (.ref CF) = some (.type "type"))
    (iF : PySem.W.isClsIn K CF = true)
    (sF : PySem.W.subIn K (.ref CF) (.ref CF) = some true)
    (ha : PySem.W.findIn K (.ref C) "__class__" = some (some (.builtin "object.__class__")))
    (hn : PySem.W.specialIn K (.builtin "object.__class__") "__get__" = some (some (.builtin "getset_descriptor.__get__")))
    (ht : PySem.W.takesIn K (.builtin "object.__class__") = some true)
    (hm : PySem.W.mroIn K C (.type "object") = some true)
    (nE : PySem.W.findIn K (.ref C) "__ne__" = some (some (.builtin "object.__ne__")))
    (nL : PySem.W.kitOne K (.type "list") (.ref C) = some false)
    (ow : ∃ cd rest, PySem.W.clsIn K C = some cd ∧ cd.mro = .ref C :: rest)
    (z_int : PySem.W.nsIn K mainGlobals "int" = some none)
    (z_len : PySem.W.nsIn K mainGlobals "len" = some none)
    (z_list : PySem.W.nsIn K mainGlobals "list" = some none)
    (z_range : PySem.W.nsIn K mainGlobals "range" = some none)
    (z_sorted : PySem.W.nsIn K mainGlobals "sorted" = some none)
    (z_tuple : PySem.W.nsIn K mainGlobals "tuple" = some none)
    (z_isinstance : PySem.W.nsIn K mainGlobals "isinstance" = some none)
    (z_str : PySem.W.nsIn K mainGlobals "str" = some none)
    (z_all : PySem.W.nsIn K mainGlobals "all" = some none)
    (z_zip : PySem.W.nsIn K mainGlobals "zip" = some none)
    (z_set : PySem.W.nsIn K mainGlobals "set" = some none)
    (z_max : PySem.W.nsIn K mainGlobals "max" = some none)
    (z_min : PySem.W.nsIn K mainGlobals "min" = some none)
    (z_abs : PySem.W.nsIn K mainGlobals "abs" = some none)
    (z_dict : PySem.W.nsIn K mainGlobals "dict" = some none)
    (z_repr : PySem.W.nsIn K mainGlobals "repr" = some none)
    (z_sum : PySem.W.nsIn K mainGlobals "sum" = some none)
    (v_MAX_NAME : PySem.W.nsIn K mainGlobals "MAX_NAME" = some (some (.int 8 tk_MAX_NAME)))
    (v_MAX_SIGNS : PySem.W.nsIn K mainGlobals "MAX_SIGNS" = some (some (.int 4 tk_MAX_SIGNS)))
    (v_MAX_KIND : PySem.W.nsIn K mainGlobals "MAX_KIND" = some (some (.int 3 tk_MAX_KIND))) :
    ∃ fd : FuncData, (∀ (s : Shared) (u : Value), BindsTo s fd ⟨[u], []⟩ [("script", u)]) ∧ ∀ base : Heap, K.In base → base.Ns mainGlobals mg → FnG P w K mg base CX0 12 fa fd ["script"] (spLaw K) := by
  have e := hfa.symm.trans (PySem.W.mg_of X G a0)
  cases e
  have F0 := fun_mk (st := slaw) l0 c0 k0
  have b0 := F0.binds (ps := ["script"]) fun _ _ _ _ _ _ us hl => match us, hl with | [_], _ => rfl
  have D0 : Def K mg "law" slaw ["script"] fa _ := ⟨F0, PySem.W.mg_of X G a0, b0⟩
  have F1 := fun_mk (st := s_law_filled) l1 c1 k1
  have b1 := F1.binds (ps := ["script", "at"]) fun _ _ _ _ _ _ us hl => match us, hl with | [_, _], _ => rfl
  have D1 : Def K mg "_law_filled" s_law_filled ["script", "at"] f1 _ := ⟨F1, PySem.W.mg_of X G a1, b1⟩
  have F2 := fun_mk (st := s_law_right) l2 c2 k2
  have b2 := F2.binds (ps := ["pot"]) fun _ _ _ _ _ _ us hl => match us, hl with | [_], _ => rfl
  have D2 : Def K mg "_law_right" s_law_right ["pot"] f2 _ := ⟨F2, PySem.W.mg_of X G a2, b2⟩
  have F3 := fun_mk (st := s_law_deed) l3 c3 k3
  have b3 := F3.binds (ps := ["pot", "streams", "record"]) fun _ _ _ _ _ _ us hl => match us, hl with | [_, _, _], _ => rfl
  have D3 : Def K mg "_law_deed" s_law_deed ["pot", "streams", "record"] f3 _ := ⟨F3, PySem.W.mg_of X G a3, b3⟩
  have F4 := fun_mk (st := s_law_more) l4 c4 k4
  have b4 := F4.binds (ps := ["pot", "streams", "record"]) fun _ _ _ _ _ _ us hl => match us, hl with | [_, _, _], _ => rfl
  have D4 : Def K mg "_law_more" s_law_more ["pot", "streams", "record"] f4 _ := ⟨F4, PySem.W.mg_of X G a4, b4⟩
  have F5 := fun_mk (st := s_law_less) l5 c5 k5
  have b5 := F5.binds (ps := ["pot", "streams", "record"]) fun _ _ _ _ _ _ us hl => match us, hl with | [_, _, _], _ => rfl
  have D5 : Def K mg "_law_less" s_law_less ["pot", "streams", "record"] f5 _ := ⟨F5, PySem.W.mg_of X G a5, b5⟩
  have F6 := fun_mk (st := s_law_renamed) l6 c6 k6
  have b6 := F6.binds (ps := ["pot", "streams", "record"]) fun _ _ _ _ _ _ us hl => match us, hl with | [_, _, _], _ => rfl
  have D6 : Def K mg "_law_renamed" s_law_renamed ["pot", "streams", "record"] f6 _ := ⟨F6, PySem.W.mg_of X G a6, b6⟩
  have F7 := fun_mk (st := s_law_words_right) l7 c7 k7
  have b7 := F7.binds (ps := ["pot", "streams", "record"]) fun _ _ _ _ _ _ us hl => match us, hl with | [_, _, _], _ => rfl
  have D7 : Def K mg "_law_words_right" s_law_words_right ["pot", "streams", "record"] f7 _ := ⟨F7, PySem.W.mg_of X G a7, b7⟩
  have F8 := fun_mk (st := s_law_is_told) l8 c8 k8
  have b8 := F8.binds (ps := ["streams", "record"]) fun _ _ _ _ _ _ us hl => match us, hl with | [_, _], _ => rfl
  have D8 : Def K mg "_law_is_told" s_law_is_told ["streams", "record"] f8 _ := ⟨F8, PySem.W.mg_of X G a8, b8⟩
  have F9 := fun_mk (st := s_law_text) l9 c9 k9
  have b9 := F9.binds (ps := ["record"]) fun _ _ _ _ _ _ us hl => match us, hl with | [_], _ => rfl
  have D9 : Def K mg "_law_text" s_law_text ["record"] f9 _ := ⟨F9, PySem.W.mg_of X G a9, b9⟩
  have F10 := fun_mk (st := s_law_word) l10 c10 k10
  have b10 := F10.binds (ps := ["pot", "signs", "most"]) fun _ _ _ _ _ _ us hl => match us, hl with | [_, _, _], _ => rfl
  have D10 : Def K mg "_law_word" s_law_word ["pot", "signs", "most"] f10 _ := ⟨F10, PySem.W.mg_of X G a10, b10⟩
  have F11 := fun_mk (st := s_law_parts) l11 c11 k11
  have b11 := F11.binds (ps := ["pot", "most"]) fun _ _ _ _ _ _ us hl => match us, hl with | [_, _], _ => rfl
  have D11 : Def K mg "_law_parts" s_law_parts ["pot", "most"] f11 _ := ⟨F11, PySem.W.mg_of X G a11, b11⟩
  have F12 := fun_mk (st := s_law_signs) l12 c12 k12
  have b12 := F12.binds (ps := ["pot"]) fun _ _ _ _ _ _ us hl => match us, hl with | [_], _ => rfl
  have D12 : Def K mg "_law_signs" s_law_signs ["pot"] f12 _ := ⟨F12, PySem.W.mg_of X G a12, b12⟩
  have F13 := fun_mk (st := s_law_names) l13 c13 k13
  have b13 := F13.binds (ps := ["pot", "many"]) fun _ _ _ _ _ _ us hl => match us, hl with | [_, _], _ => rfl
  have D13 : Def K mg "_law_names" s_law_names ["pot", "many"] f13 _ := ⟨F13, PySem.W.mg_of X G a13, b13⟩
  have F14 := fun_mk (st := s_law_free) l14 c14 k14
  have b14 := F14.binds (ps := ["names"]) fun _ _ _ _ _ _ us hl => match us, hl with | [_], _ => rfl
  have D14 : Def K mg "_law_free" s_law_free ["names"] f14 _ := ⟨F14, PySem.W.mg_of X G a14, b14⟩
  have F15 := fun_mk (st := s_law_name) l15 c15 k15
  have b15 := F15.binds (ps := ["pot"]) fun _ _ _ _ _ _ us hl => match us, hl with | [_], _ => rfl
  have D15 : Def K mg "_law_name" s_law_name ["pot"] f15 _ := ⟨F15, PySem.W.mg_of X G a15, b15⟩
  have F16 := fun_mk (st := s_law_shuffled) l16 c16 k16
  have b16 := F16.binds (ps := ["pot", "items"]) fun _ _ _ _ _ _ us hl => match us, hl with | [_, _], _ => rfl
  have D16 : Def K mg "_law_shuffled" s_law_shuffled ["pot", "items"] f16 _ := ⟨F16, PySem.W.mg_of X G a16, b16⟩
  have F17 := fun_mk (st := s_law_choose) l17 c17 k17
  have b17 := F17.binds (ps := ["pot", "items"]) fun _ _ _ _ _ _ us hl => match us, hl with | [_, _], _ => rfl
  have D17 : Def K mg "_law_choose" s_law_choose ["pot", "items"] f17 _ := ⟨F17, PySem.W.mg_of X G a17, b17⟩
  have F18 := fun_mk (st := s_law_dip) l18 c18 k18
  have b18 := F18.binds (ps := ["pot", "total"]) fun _ _ _ _ _ _ us hl => match us, hl with | [_, _], _ => rfl
  have D18 : Def K mg "_law_dip" s_law_dip ["pot", "total"] f18 _ := ⟨F18, PySem.W.mg_of X G a18, b18⟩
  have F19 := fun_mk (st := s_told) l19 c19 k19
  have b19 := F19.binds (ps := ["sources", "sinks"]) fun _ _ _ _ _ _ us hl => match us, hl with | [_, _], _ => rfl
  have D19 : Def K mg "_told" s_told ["sources", "sinks"] f19 _ := ⟨F19, PySem.W.mg_of X G a19, b19⟩
  have F20 := fun_mk (st := s_are_words) l20 c20 k20
  have b20 := F20.binds (ps := ["kind", "value"]) fun _ _ _ _ _ _ us hl => match us, hl with | [_, _], _ => rfl
  have D20 : Def K mg "_are_words" s_are_words ["kind", "value"] f20 _ := ⟨F20, PySem.W.mg_of X G a20, b20⟩
  have F21 := fun_mk (st := s_are_streams) l21 c21 k21
  have b21 := F21.binds (ps := ["sources", "sinks"]) fun _ _ _ _ _ _ us hl => match us, hl with | [_, _], _ => rfl
  have D21 : Def K mg "_are_streams" s_are_streams ["sources", "sinks"] f21 _ := ⟨F21, PySem.W.mg_of X G a21, b21⟩
  have F22 := fun_mk (st := s_are_kind) l22 c22 k22
  have b22 := F22.binds (ps := ["value", "fewest"]) fun _ _ _ _ _ _ us hl => match us, hl with | [_, _], _ => rfl
  have D22 : Def K mg "_are_kind" s_are_kind ["value", "fewest"] f22 _ := ⟨F22, PySem.W.mg_of X G a22, b22⟩
  have F23 := fun_mk (st := s_is_stream) l23 c23 k23
  have b23 := F23.binds (ps := ["value"]) fun _ _ _ _ _ _ us hl => match us, hl with | [_], _ => rfl
  have D23 : Def K mg "_is_stream" s_is_stream ["value"] f23 _ := ⟨F23, PySem.W.mg_of X G a23, b23⟩
  have F24 := fun_mk (st := sis_word) l24 c24 k24
  have b24 := F24.binds (ps := ["signs", "value"]) fun _ _ _ _ _ _ us hl => match us, hl with | [_, _], _ => rfl
  have D24 : Def K mg "is_word" sis_word ["signs", "value"] f24 _ := ⟨F24, PySem.W.mg_of X G a24, b24⟩
  have F25 := fun_mk (st := sis_name) l25 c25 k25
  have b25 := F25.binds (ps := ["value"]) fun _ _ _ _ _ _ us hl => match us, hl with | [_], _ => rfl
  have D25 : Def K mg "is_name" sis_name ["value"] f25 _ := ⟨F25, PySem.W.mg_of X G a25, b25⟩
  have F26 := fun_mk (st := sis_signs) l26 c26 k26
  have b26 := F26.binds (ps := ["value"]) fun _ _ _ _ _ _ us hl => match us, hl with | [_], _ => rfl
  have D26 : Def K mg "is_signs" sis_signs ["value"] f26 _ := ⟨F26, PySem.W.mg_of X G a26, b26⟩
  have F27 := fun_mk (st := sare_letters) l27 c27 k27
  have b27 := F27.binds (ps := ["text"]) fun _ _ _ _ _ _ us hl => match us, hl with | [_], _ => rfl
  have D27 : Def K mg "are_letters" sare_letters ["text"] f27 _ := ⟨F27, PySem.W.mg_of X G a27, b27⟩
  have F28 := fun_mk (st := sStreams___init__) l28 c28 k28
  have b28 := F28.binds (ps := ["self", "sources", "sinks"]) fun _ _ _ _ _ _ us hl => match us, hl with | [_, _, _], _ => rfl
  have F29 := fun_mk (st := sStreams_sources) l29 c29 k29
  have b29 := F29.binds (ps := ["self"]) fun _ _ _ _ _ _ us hl => match us, hl with | [_], _ => rfl
  have F30 := fun_mk (st := sStreams_sinks) l30 c30 k30
  have b30 := F30.binds (ps := ["self"]) fun _ _ _ _ _ _ us hl => match us, hl with | [_], _ => rfl
  have F31 := fun_mk (st := sStreams_names) l31 c31 k31
  have b31 := F31.binds (ps := ["self"]) fun _ _ _ _ _ _ us hl => match us, hl with | [_], _ => rfl
  have F32 := fun_mk (st := sStreams_signs_of) l32 c32 k32
  have b32 := F32.binds (ps := ["self", "name"]) fun _ _ _ _ _ _ us hl => match us, hl with | [_, _], _ => rfl
  have M32 : MethAt K C "signs_of" "Streams.signs_of" sStreams_signs_of ["self", "name"] f32 _ := ⟨F32, a32, i32, b32⟩
  have F33 := fun_mk (st := sStreams_is_source) l33 c33 k33
  have b33 := F33.binds (ps := ["self", "name"]) fun _ _ _ _ _ _ us hl => match us, hl with | [_, _], _ => rfl
  have M33 : MethAt K C "is_source" "Streams.is_source" sStreams_is_source ["self", "name"] f33 _ := ⟨F33, a33, i33, b33⟩
  have F34 := fun_mk (st := sStreams_index_of) l34 c34 k34
  have b34 := F34.binds (ps := ["self", "name"]) fun _ _ _ _ _ _ us hl => match us, hl with | [_, _], _ => rfl
  have M34 : MethAt K C "index_of" "Streams.index_of" sStreams_index_of ["self", "name"] f34 _ := ⟨F34, a34, i34, b34⟩
  have F35 := fun_mk (st := sStreams_is_content) l35 c35 k35
  have b35 := F35.binds (ps := ["self", "value"]) fun _ _ _ _ _ _ us hl => match us, hl with | [_, _], _ => rfl
  have M35 : MethAt K C "is_content" "Streams.is_content" sStreams_is_content ["self", "value"] f35 _ := ⟨F35, a35, i35, b35⟩
  have F36 := fun_mk (st := sStreams_is_filling) l36 c36 k36
  have b36 := F36.binds (ps := ["self", "value"]) fun _ _ _ _ _ _ us hl => match us, hl with | [_, _], _ => rfl
  have M36 : MethAt K C "is_filling" "Streams.is_filling" sStreams_is_filling ["self", "value"] f36 _ := ⟨F36, a36, i36, b36⟩
  have F37 := fun_mk (st := sStreams_steps_of) l37 c37 k37
  have b37 := F37.binds (ps := ["self", "content", "filling"]) fun _ _ _ _ _ _ us hl => match us, hl with | [_, _, _], _ => rfl
  have M37 : MethAt K C "steps_of" "Streams.steps_of" sStreams_steps_of ["self", "content", "filling"] f37 _ := ⟨F37, a37, i37, b37⟩
  have F38 := fun_mk (st := sStreams_renamed) l38 c38 k38
  have b38 := F38.binds (ps := ["self", "names"]) fun _ _ _ _ _ _ us hl => match us, hl with | [_, _], _ => rfl
  have M38 : MethAt K C "renamed" "Streams.renamed" sStreams_renamed ["self", "names"] f38 _ := ⟨F38, a38, i38, b38⟩
  have F39 := fun_mk (st := sStreams__are_new_names) l39 c39 k39
  have b39 := F39.binds (ps := ["self", "value"]) fun _ _ _ _ _ _ us hl => match us, hl with | [_, _], _ => rfl
  have M39 : MethAt K C "_are_new_names" "Streams._are_new_names" sStreams__are_new_names ["self", "value"] f39 _ := ⟨F39, a39, i39, b39⟩
  have F40 := fun_mk (st := sStreams_without) l40 c40 k40
  have b40 := F40.binds (ps := ["self", "name"]) fun _ _ _ _ _ _ us hl => match us, hl with | [_, _], _ => rfl
  have M40 : MethAt K C "without" "Streams.without" sStreams_without ["self", "name"] f40 _ := ⟨F40, a40, i40, b40⟩
  have F41 := fun_mk (st := sStreams___add__) l41 c41 k41
  have b41 := F41.binds (ps := ["self", "other"]) fun _ _ _ _ _ _ us hl => match us, hl with | [_, _], _ => rfl
  have M41 : MethAt K C "__add__" "Streams.__add__" sStreams___add__ ["self", "other"] f41 _ := ⟨F41, a41, i41, b41⟩
  have F42 := fun_mk (st := sStreams___contains__) l42 c42 k42
  have b42 := F42.binds (ps := ["self", "value"]) fun _ _ _ _ _ _ us hl => match us, hl with | [_, _], _ => rfl
  have M42 : MethAt K C "__contains__" "Streams.__contains__" sStreams___contains__ ["self", "value"] f42 _ := ⟨F42, a42, i42, b42⟩
  have F43 := fun_mk (st := sStreams___len__) l43 c43 k43
  have b43 := F43.binds (ps := ["self"]) fun _ _ _ _ _ _ us hl => match us, hl with | [_], _ => rfl
  have M43 : MethAt K C "__len__" "Streams.__len__" sStreams___len__ ["self"] f43 _ := ⟨F43, a43, i43, b43⟩
  have F44 := fun_mk (st := sStreams___eq__) l44 c44 k44
  have b44 := F44.binds (ps := ["self", "other"]) fun _ _ _ _ _ _ us hl => match us, hl with | [_, _], _ => rfl
  have M44 : MethAt K C "__eq__" "Streams.__eq__" sStreams___eq__ ["self", "other"] f44 _ := ⟨F44, a44, i44, b44⟩
  have F45 := fun_mk (st := sStreams___str__) l45 c45 k45
  have b45 := F45.binds (ps := ["self"]) fun _ _ _ _ _ _ us hl => match us, hl with | [_], _ => rfl
  have M45 : MethAt K C "__str__" "Streams.__str__" sStreams___str__ ["self"] f45 _ := ⟨F45, a45, i45, b45⟩
  have T : Txt2 mg := ⟨⟨PySem.W.mg_none_of X G z_int, PySem.W.mg_none_of X G z_len, PySem.W.mg_none_of X G z_list, PySem.W.mg_none_of X G z_range, PySem.W.mg_none_of X G z_sorted, PySem.W.mg_none_of X G z_tuple⟩, PySem.W.mg_none_of X G z_isinstance, PySem.W.mg_none_of X G z_str, PySem.W.mg_none_of X G z_all, PySem.W.mg_none_of X G z_zip, PySem.W.mg_none_of X G z_set, PySem.W.mg_none_of X G z_max, PySem.W.mg_none_of X G z_min, PySem.W.mg_none_of X G z_abs, PySem.W.mg_none_of X G z_dict, PySem.W.mg_none_of X G z_repr⟩
  have N_MAX_NAME : Num mg "MAX_NAME" 8 := ⟨_, PySem.W.mg_of X G v_MAX_NAME⟩
  have N_MAX_SIGNS : Num mg "MAX_SIGNS" 4 := ⟨_, PySem.W.mg_of X G v_MAX_SIGNS⟩
  have N_MAX_KIND : Num mg "MAX_KIND" 3 := ⟨_, PySem.W.mg_of X G v_MAX_KIND⟩
  have XI : Err K mg "InvalidStreams" CI := ⟨PySem.W.mg_of X G aI, xI, kI, bI, tI, exm_self bI iI tI sI⟩
  have XO : Err K mg "InvalidOperation" CF := ⟨PySem.W.mg_of X G aF, xF, kF, bF, tF, exm_self bF iF tF sF⟩
  have SC : StrmC K C := ⟨⟨pg, hd, po, sa⟩, n1, n2, n3, n4⟩
  have IC : IsC K C := ⟨ha, hn, ht, hm⟩
  have P1 : PropOf K C "sources" pp29 f29 := ⟨a29, g29, t29, ⟨_, r29⟩⟩
  have P2 : PropOf K C "sinks" pp30 f30 := ⟨a30, g30, t30, ⟨_, r30⟩⟩
  have P3 : PropOf K C "names" pp31 f31 := ⟨a31, g31, t31, ⟨_, r31⟩⟩
  have MK : Mk K C f28 := ⟨mk, a28, i28, kc⟩
  have gS := PySem.W.mg_of X G aC
  have AB : AddsBy K C f41 := ⟨a41, i41, ow⟩
  refine ⟨PySem.W.fnOf "law" "law" (defArgs slaw) (defBody slaw) (defScope slaw) .none kV0 dc0 pm0 an0 cd0 ct0, fun s u => .of_eq rfl, fun base _ _ => ?_⟩
  have GI : FnOk P w K mg base (L2.CX P w) 6 f28 _ ["self", "sources", "sinks"] (spStreams K C CI) := ok_streams T N_MAX_NAME N_MAX_SIGNS N_MAX_KIND F28 SC XI D21 D22 D23 D25 D26 D27
  have G1 : FnOk P w K mg base CX0 1 f29 _ ["self"] (getSp C "_sources") := ok_get SC F29
  have G2 : FnOk P w K mg base CX0 1 f30 _ ["self"] (getSp C "_sinks") := ok_get2 SC F30
  have G3 : FnOk P w K mg base CX0 1 f31 _ ["self"] (getSp C "_names") := ok_getn SC F31
  have V := Env2.mk (P := P) (w := w) (base := base) (CF := CF) T SC IC nE MK b28 gS GI P1 G1 b29 P2 G2 b30 P3 G3 b31
  have Gstr := ok_str (P := P) (w := w) (base := base) T SC M45 D19
  have Gadd := ok_add (P := P) (w := w) (base := base) T N_MAX_NAME N_MAX_SIGNS N_MAX_KIND M41 IC MK F28 b28 gS SC XI XO D21 D22 D23 D25 D26 D27
  have Gwo := ok_without (P := P) (w := w) (base := base) T N_MAX_NAME N_MAX_SIGNS N_MAX_KIND M40 M42 MK F28 b28 gS SC XI XO D21 D22 D23 D25 D26 D27
  have Gren := ok_renamed (P := P) (w := w) (base := base) T N_MAX_NAME N_MAX_SIGNS N_MAX_KIND M38 M39 MK F28 b28 gS SC XI D21 D22 D23 D25 D26 D27
  have Gix := ok_index_of (P := P) (w := w) (base := base) T SC M34 M33 M42
  have Gparts := ok_parts (P := P) (w := w) (base := base) (K := K) T.toTxt D11 D18 D17 D16 D15 D14 D13 D12
  have Gtold := ok_is_told V D8 D9 M43 M45 Gstr M44 M32 M33 M34 M42
  have Gwr := ok_words_right (P := P) (w := w) (base := base) T (PySem.W.mg_none_of X G z_sum) SC D7 D18 D17 D10 M37 M35 M36 D20 D24
  have Glr := ok_lrenamed (P := P) (w := w) (base := base) T SC D6 D18 D17 D16 D15 D14 D13 M38 Gren
  have Gll := ok_lless (P := P) (w := w) (base := base) T SC XO D5 D18 D17 M40 Gwo
  have Glm := ok_lmore (P := P) (w := w) (base := base) T N_MAX_NAME N_MAX_SIGNS N_MAX_KIND SC XO XI D4 D18 D11 Gparts MK b28 gS GI AB M41 Gadd
  have Gld := ok_ldeed (P := P) (w := w) (base := base) T D3 D18 D6 Glr D5 Gll D4 Glm
  have Grt := ok_lright V nL D2 D18 D11 Gparts D3 Gld D8 Gtold D7 Gwr M44
  exact ok_law V D0 D1 D2 Grt M44 M45 Gstr M38 Gren M34 Gix M40 Gwo
end Z
open PySem PySem.W PyProof.Rows
set_option maxHeartbeats 0 in
theorem PySem.Challenge.cw_fewersteps_k02_whole_histories_of_stream_holds : PySem.Challenge.rw_fewersteps_k02_whole_histories_of_stream.Holds := by
  w_on; o_law; k_head; (case hw => w_witness2)
  k_fill
  refine G.walk (n := 63) (k := 12) (x := "script") (CX := fun _ => L2.CX0) (sp := fun w => Z.spLaw _) rfl (by decide) rfl ⟨rfl, by decide, by decide⟩ (fun w h Y => PySem.W.kIn_of Y) ?F (fun _ _ a ns _ _ hS => ⟨a, ns, rfl, hS, fun _ => rfl⟩) (fun _ _ _ _ _ h => h)
  case F =>
    intro w mg fa h KX G hmg
    refine' Z.all_mk KX G hmg ?aC ?aI ?aF ?a0 ?l0 ?c0 ?k0 ?a1 ?l1 ?c1 ?k1 ?a2 ?l2 ?c2 ?k2 ?a3 ?l3 ?c3 ?k3 ?a4 ?l4 ?c4 ?k4 ?a5 ?l5 ?c5 ?k5 ?a6 ?l6 ?c6 ?k6 ?a7 ?l7 ?c7 ?k7 ?a8 ?l8 ?c8 ?k8 ?a9 ?l9 ?c9 ?k9 ?a10 ?l10 ?c10 ?k10 ?a11 ?l11 ?c11 ?k11 ?a12 ?l12 ?c12 ?k12 ?a13 ?l13 ?c13 ?k13 ?a14 ?l14 ?c14 ?k14 ?a15 ?l15 ?c15 ?k15 ?a16 ?l16 ?c16 ?k16 ?a17 ?l17 ?c17 ?k17 ?a18 ?l18 ?c18 ?k18 ?a19 ?l19 ?c19 ?k19 ?a20 ?l20 ?c20 ?k20 ?a21 ?l21 ?c21 ?k21 ?a22 ?l22 ?c22 ?k22 ?a23 ?l23 ?c23 ?k23 ?a24 ?l24 ?c24 ?k24 ?a25 ?l25 ?c25 ?k25 ?a26 ?l26 ?c26 ?k26 ?a27 ?l27 ?c27 ?k27 ?a28 ?i28 ?l28 ?c28 ?k28 ?a29 ?g29 ?t29 ?r29 ?l29 ?c29 ?k29 ?a30 ?g30 ?t30 ?r30 ?l30 ?c30 ?k30 ?a31 ?g31 ?t31 ?r31 ?l31 ?c31 ?k31 ?a32 ?i32 ?l32 ?c32 ?k32 ?a33 ?i33 ?l33 ?c33 ?k33 ?a34 ?i34 ?l34 ?c34 ?k34 ?a35 ?i35 ?l35 ?c35 ?k35 ?a36 ?i36 ?l36 ?c36 ?k36 ?a37 ?i37 ?l37 ?c37 ?k37 ?a38 ?i38 ?l38 ?c38 ?k38 ?a39 ?i39 ?l39 ?c39 ?k39 ?a40 ?i40 ?l40 ?c40 ?k40 ?a41 ?i41 ?l41 ?c41 ?k41 ?a42 ?i42 ?l42 ?c42 ?k42 ?a43 ?i43 ?l43 ?c43 ?k43 ?a44 ?i44 ?l44 ?c44 ?k44 ?a45 ?i45 ?l45 ?c45 ?k45 ?pg ?hd ?po ?sa ?mk ?kc ?n1 ?n2 ?n3 ?n4 ?xI ?kI ?bI ?tI ?iI ?sI ?xF ?kF ?bF ?tF ?iF ?sF ?ha ?hn ?ht ?hm ?nE ?nL ?ow ?z_int ?z_len ?z_list ?z_range ?z_sorted ?z_tuple ?z_isinstance ?z_str ?z_all ?z_zip ?z_set ?z_max ?z_min ?z_abs ?z_dict ?z_repr ?z_sum ?v_MAX_NAME ?v_MAX_SIGNS ?v_MAX_KIND
    (case aC => k_is)
    (case aI => k_is)
    (case aF => k_is)
    (case a0 => k_is)
    (case l0 => k_is)
    (case c0 => k_is)
    (case k0 => k_is)
    (case a1 => k_is)
    (case l1 => k_is)
    (case c1 => k_is)
    (case k1 => k_is)
    (case a2 => k_is)
    (case l2 => k_is)
    (case c2 => k_is)
    (case k2 => k_is)
    (case a3 => k_is)
    (case l3 => k_is)
    (case c3 => k_is)
    (case k3 => k_is)
    (case a4 => k_is)
    (case l4 => k_is)
    (case c4 => k_is)
    (case k4 => k_is)
    (case a5 => k_is)
    (case l5 => k_is)
    (case c5 => k_is)
    (case k5 => k_is)
    (case a6 => k_is)
    (case l6 => k_is)
    (case c6 => k_is)
    (case k6 => k_is)
    (case a7 => k_is)
    (case l7 => k_is)
    (case c7 => k_is)
    (case k7 => k_is)
    (case a8 => k_is)
    (case l8 => k_is)
    (case c8 => k_is)
    (case k8 => k_is)
    (case a9 => k_is)
    (case l9 => k_is)
    (case c9 => k_is)
    (case k9 => k_is)
    (case a10 => k_is)
    (case l10 => k_is)
    (case c10 => k_is)
    (case k10 => k_is)
    (case a11 => k_is)
    (case l11 => k_is)
    (case c11 => k_is)
    (case k11 => k_is)
    (case a12 => k_is)
    (case l12 => k_is)
    (case c12 => k_is)
    (case k12 => k_is)
    (case a13 => k_is)
    (case l13 => k_is)
    (case c13 => k_is)
    (case k13 => k_is)
    (case a14 => k_is)
    (case l14 => k_is)
    (case c14 => k_is)
    (case k14 => k_is)
    (case a15 => k_is)
    (case l15 => k_is)
    (case c15 => k_is)
    (case k15 => k_is)
    (case a16 => k_is)
    (case l16 => k_is)
    (case c16 => k_is)
    (case k16 => k_is)
    (case a17 => k_is)
    (case l17 => k_is)
    (case c17 => k_is)
    (case k17 => k_is)
    (case a18 => k_is)
    (case l18 => k_is)
    (case c18 => k_is)
    (case k18 => k_is)
    (case a19 => k_is)
    (case l19 => k_is)
    (case c19 => k_is)
    (case k19 => k_is)
    (case a20 => k_is)
    (case l20 => k_is)
    (case c20 => k_is)
    (case k20 => k_is)
    (case a21 => k_is)
    (case l21 => k_is)
    (case c21 => k_is)
    (case k21 => k_is)
    (case a22 => k_is)
    (case l22 => k_is)
    (case c22 => k_is)
    (case k22 => k_is)
    (case a23 => k_is)
    (case l23 => k_is)
    (case c23 => k_is)
    (case k23 => k_is)
    (case a24 => k_is)
    (case l24 => k_is)
    (case c24 => k_is)
    (case k24 => k_is)
    (case a25 => k_is)
    (case l25 => k_is)
    (case c25 => k_is)
    (case k25 => k_is)
    (case a26 => k_is)
    (case l26 => k_is)
    (case c26 => k_is)
    (case k26 => k_is)
    (case a27 => k_is)
    (case l27 => k_is)
    (case c27 => k_is)
    (case k27 => k_is)
    (case a28 => k_is)
    (case i28 => k_is)
    (case l28 => k_is)
    (case c28 => k_is)
    (case k28 => k_is)
    (case a29 => k_is)
    (case g29 => k_is)
    (case t29 => k_is)
    (case r29 => k_is)
    (case l29 => k_is)
    (case c29 => k_is)
    (case k29 => k_is)
    (case a30 => k_is)
    (case g30 => k_is)
    (case t30 => k_is)
    (case r30 => k_is)
    (case l30 => k_is)
    (case c30 => k_is)
    (case k30 => k_is)
    (case a31 => k_is)
    (case g31 => k_is)
    (case t31 => k_is)
    (case r31 => k_is)
    (case l31 => k_is)
    (case c31 => k_is)
    (case k31 => k_is)
    (case a32 => k_is)
    (case i32 => k_is)
    (case l32 => k_is)
    (case c32 => k_is)
    (case k32 => k_is)
    (case a33 => k_is)
    (case i33 => k_is)
    (case l33 => k_is)
    (case c33 => k_is)
    (case k33 => k_is)
    (case a34 => k_is)
    (case i34 => k_is)
    (case l34 => k_is)
    (case c34 => k_is)
    (case k34 => k_is)
    (case a35 => k_is)
    (case i35 => k_is)
    (case l35 => k_is)
    (case c35 => k_is)
    (case k35 => k_is)
    (case a36 => k_is)
    (case i36 => k_is)
    (case l36 => k_is)
    (case c36 => k_is)
    (case k36 => k_is)
    (case a37 => k_is)
    (case i37 => k_is)
    (case l37 => k_is)
    (case c37 => k_is)
    (case k37 => k_is)
    (case a38 => k_is)
    (case i38 => k_is)
    (case l38 => k_is)
    (case c38 => k_is)
    (case k38 => k_is)
    (case a39 => k_is)
    (case i39 => k_is)
    (case l39 => k_is)
    (case c39 => k_is)
    (case k39 => k_is)
    (case a40 => k_is)
    (case i40 => k_is)
    (case l40 => k_is)
    (case c40 => k_is)
    (case k40 => k_is)
    (case a41 => k_is)
    (case i41 => k_is)
    (case l41 => k_is)
    (case c41 => k_is)
    (case k41 => k_is)
    (case a42 => k_is)
    (case i42 => k_is)
    (case l42 => k_is)
    (case c42 => k_is)
    (case k42 => k_is)
    (case a43 => k_is)
    (case i43 => k_is)
    (case l43 => k_is)
    (case c43 => k_is)
    (case k43 => k_is)
    (case a44 => k_is)
    (case i44 => k_is)
    (case l44 => k_is)
    (case c44 => k_is)
    (case k44 => k_is)
    (case a45 => k_is)
    (case i45 => k_is)
    (case l45 => k_is)
    (case c45 => k_is)
    (case k45 => k_is)
    (case pg => k_is)
    (case hd => k_is)
    (case po => k_is)
    (case sa => k_is)
    (case mk => k_is)
    (case kc => k_is)
    (case n1 => k_is)
    (case n2 => k_is)
    (case n3 => k_is)
    (case n4 => k_is)
    (case xI => k_exc)
    (case kI => k_is)
    (case bI => k_is)
    (case tI => k_is)
    (case iI => k_is)
    (case sI => first | rfl | k_is)
    (case xF => k_exc)
    (case kF => k_is)
    (case bF => k_is)
    (case tF => k_is)
    (case iF => k_is)
    (case sF => first | rfl | k_is)
    (case ha => k_is)
    (case hn => first | k_is | rfl)
    (case ht => first | k_is | rfl)
    (case hm => first | k_is | rfl)
    (case nE => k_is)
    (case nL => first | k_is | rfl | decide +kernel)
    (case ow => first | exact ⟨_, _, rfl, rfl⟩ | k_is)
    (case z_int => k_is)
    (case z_len => k_is)
    (case z_list => k_is)
    (case z_range => k_is)
    (case z_sorted => k_is)
    (case z_tuple => k_is)
    (case z_isinstance => k_is)
    (case z_str => k_is)
    (case z_all => k_is)
    (case z_zip => k_is)
    (case z_set => k_is)
    (case z_max => k_is)
    (case z_min => k_is)
    (case z_abs => k_is)
    (case z_dict => k_is)
    (case z_repr => k_is)
    (case z_sum => k_is)
    (case v_MAX_NAME => k_is)
    (case v_MAX_SIGNS => k_is)
    (case v_MAX_KIND => k_is)
