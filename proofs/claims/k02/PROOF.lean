import PyProof.Rows.All
import Wide.All
import OpenK.AllK
import Wide.FinOn
import HandS.ForMost
import HandS.IsInst
import HandS.Wide
import HandS.WideBits
import HandS.Style
import HandS.Zip
import PyProof.ReprRoads
import PyProof.ReprLen
import PySem.Challenge.RW_mashrunnings_k02_fractions_made
set_option Elab.async false
set_option linter.all false
set_option maxRecDepth 100000
set_option maxHeartbeats 4000000
namespace Ms
open PySem PySem.Spec PyProof.Rows L2

/-! ### defs that may ask for a repr: nothing that guards a repr runs around -/
def Bare (A : Around) : Prop := A.guards = some []
theorem Bare.deeper {A : Around} (h : Bare A) (env : Env) : Bare (A.deeper env) := h
theorem bare_caller : Bare callerA := rfl

structure FnG (P : Program) (w : World) (K : PySem.W.Frag) (mg : Str → Option Value)
    (base : Heap) (CX : CXT) (k : Nat) (f : Addr) (fd : FuncData) (ps : List Str) (sp : Sp) : Prop where
  len : ∀ vs H Q E, sp vs H Q E → vs.length = ps.length
  run : ∀ (A : Around) (outer : List Env) (s : Shared) (H : Hp) (args : Args)
    (us : List Value) (vs : List V) (Q : VK) (E : XK), Bare A → Room k A →
    Env0 P w K mg base A outer s H → BindsTo s fd args (ps.zip us) → Vals vs us →
    sp vs H Q E → codeAny (model P w) A (.call (.ref f) args) (CR CX outer P w H s Q E) s

/-- a def of the module, by its name -/
structure Def (P : Program) (w : World) (K : PySem.W.Frag) (mg : Str → Option Value)
    (base : Heap) (CX : CXT) (k : Nat) (x : Str) (ps : List Str) (sp : Sp) : Prop where
  ex : ∃ f fd, FnG P w K mg base CX k f fd ps sp ∧ mg x = some (.ref f) ∧
    PySem.W.keepIn K (.ref f) = true ∧ Binds K fd ps []

section
variable {P : Program} {w : World} {K : PySem.W.Frag} {mg : Str → Option Value} {base : Heap}

theorem okG {CX : CXT} {x qual : Str} {st : Stmt} {f : Addr} {fd : FuncData} {N ps : List Str} {k : Nat} {sp : Sp}
    (F : Fun K x qual st f fd) (S : FnScope N ps (defScope st))
    (len : ∀ vs H Q E, sp vs H Q E → vs.length = ps.length)
    (hbody : ∀ (cdv : Value) (A : Around) (outer : List Env) (s : Shared) (H : Hp)
        (vs : List V) (Q : VK) (E : XK), Bare (A.deeper (envOfC qual (defScope st) s.heap.objs.size f cdv)) →
        Room k (A.deeper (envOfC qual (defScope st) s.heap.objs.size f cdv)) → sp vs H Q E →
        ∃ t, PSs (cxOf CX P w K mg base N qual (defScope st) f cdv A outer s H E) (defBody st) t ∧
          t { nx := fun _ H' => Q .non H', rt := Q } (start N vs) H) :
    FnG P w K mg base CX (k + 1) f fd ps sp := by
  obtain ⟨oc, od, kV, doc, pm, an, cdv, ct, osl, rfl, lk, hcd⟩ := F.ex
  constructor
  · exact len
  intro A outer s H args us vs Q E hB hr e0 hb r hsp
  have hl := len _ _ _ _ hsp
  have keep : ∀ b o, base.get? b = some o → s.heap.get? b = some o := fun b o e => (e0.bs b o e).1
  have KX : K.In s.heap := e0.mod.kin.keeps keep
  have lim : s.heap.NoLimit := e0.mod.nolimit.keeps keep
  have kinds : ∀ y ∈ ps.zip us, (defScope st).names.lookup y.1 = some .local ∨
      ((defScope st).names.lookup y.1 = some .cell ∧
        ((cellsFrom (s.heap.objs.size + 1) (defScope st).names []).lookup y.1).isSome = true) := by
    rintro ⟨n, v⟩ hy
    rcases S.par n (List.of_mem_zip hy).1 with q | q
    · exact Or.inl q
    · exact Or.inr ⟨q, PySem.W.cellsFrom_some _ _ _ (Or.inl q)⟩
  apply codeAny_call_function hr.depth (KX _ _ lk) rfl S.co S.gen rfl (PySem.W.codeRec_of KX hcd)
  apply hb
  refine wpAny_newFunctionEnv_cells S.kind kinds fun env he s1 x1 => ?_
  subst he
  refine ⟨lim.keeps x1.toInCall.keep, codeAny_func ?_⟩
  obtain ⟨t, ht, hq⟩ := hbody cdv A outer s H vs Q E hB (hr.deeper _) hsp
  have I := inv_start (CX := CX) (E := E) (N := N) S hr.hd e0 hl r x1
  have done : ∀ {σ' : L2.St} {H' : Hp} {s' : Shared} {v : V} {u : Value},
      Inv (cxOf CX P w K mg base N qual (defScope st) f cdv A outer s H E) [] σ' H' s' →
      RelV v u → Q v H' → CE outer P w H s Q u s' := by
    intro σ' H' s' v u J rv q
    exact ⟨v, H', J.os, J.bare, J.base, J.hok, rv, q⟩
  refine wpAny_mono (ht.run [] s1 (start N vs) H _ I hq) ?_ (fun _ _ z => z)
  intro fl s' hs
  match fl, hs with
  | .ret u, ⟨v, σ', H', J, rv, q⟩ => exact done J rv q
  | .next, ⟨σ', H', J, q⟩ => exact done (v := V.non) (u := Value.none) J rfl q
  | .brk, ⟨_, _, _, q⟩ => exact q.elim
  | .cont, ⟨_, _, _, q⟩ => exact q.elim

theorem okG0 {x qual : Str} {st : Stmt} {f : Addr} {fd : FuncData} {N ps : List Str} {k : Nat} {sp : Sp}
    (F : Fun K x qual st f fd) (S : FnScope N ps (defScope st))
    (len : ∀ vs H Q E, sp vs H Q E → vs.length = ps.length)
    (hbody : ∀ (cdv : Value) (A : Around) (outer : List Env) (s : Shared) (H : Hp)
        (vs : List V) (Q : VK) (E : XK), Bare (A.deeper (envOfC qual (defScope st) s.heap.objs.size f cdv)) →
        Room k (A.deeper (envOfC qual (defScope st) s.heap.objs.size f cdv)) → sp vs H Q E →
        ∃ t, PSs (cxOf CX0 P w K mg base N qual (defScope st) f cdv A outer s H E).nox (defBody st) t ∧
          t { nx := fun _ H' => Q .non H', rt := Q } (start N vs) H) :
    FnG P w K mg base CX0 (k + 1) f fd ps sp :=
  okG F S len fun cdv A outer s H vs Q E hB hr hsp => by
    obtain ⟨t, h, q⟩ := hbody cdv A outer s H vs Q E hB hr hsp
    exact ⟨t, h.nox, q⟩

theorem def_of {CX : CXT} {x qual : Str} {st : Stmt} {f : Addr} {fd : FuncData} {ps : List Str} {k : Nat} {sp : Sp}
    (F : Fun K x qual st f fd) (G : FnG P w K mg base CX k f fd ps sp) (g : mg x = some (.ref f))
    (b : Binds K fd ps []) : Def P w K mg base CX k x ps sp := ⟨⟨f, fd, G, g, F.kp, b⟩⟩
end

section
variable {X : Cx} {CX : CXT} {k j : Nat} {ps : List Str} {sp : Sp} {E : XK} {x : Str} {p pos : Pos} {e : Expr} {es : List Expr} {t : TA}

theorem runG {f : Addr} {fd : FuncData} {pins : List (Addr × Obj)} {σ : L2.St} {H : Hp} {s : Shared} {Q : VK} {us : List Value} {vs : List V}
    (F : FnG X.prog X.w X.K X.mg X.base CX k f fd ps sp) (hB : Bare X.A) (hr : Room k X.A) (hb : Binds X.K fd ps [])
    (hx : Passes CX X E) (I : Inv X pins σ H s) (r : Vals vs us) (h : sp vs H Q E) :
    wpAny (model X.prog X.w) X.A (call (.ref f) us) (EP X pins σ Q) X.xe s := by
  have n1 : us.length = ps.length := by rw [← r.length]; exact F.len _ _ _ _ h
  have bd : BindsTo s fd ⟨us, []⟩ (ps.zip us) := by
    have z := hb s us I.kIn (by rw [List.append_nil]; exact n1)
    rw [List.append_nil] at z
    exact z
  apply wpAny_call
  refine codeAny_mono (F.run X.A X.stack s H ⟨us, []⟩ us vs Q E hB hr I.env0 bd r h) ?_
  intro rs s' hq
  match rs, hq with
  | .error e, hq => exact hx pins σ H s e s' I hq
  | .ok (.ret u), hq => exact I.after hq
  | .ok .next, hq => exact hq.elim
  | .ok .brk, hq => exact hq.elim
  | .ok .cont, hq => exact hq.elim

/-- f(e, ..), f a def of the module -/
theorem pcall (D : Def X.prog X.w X.K X.mg X.base CX k x ps sp) (hB : Bare X.A) (hr : Room k X.A) (hg : Gl X x)
    (hx : Passes CX X E) (ha : PA X (e :: es) t) (hdb : (x == ("__debug__" : Str)) = false := by decide)
    (he : starEach (e :: es) X.env = (false, eval e X.env) :: starEach es X.env := by rfl)
    (hpl : (backTo pos (starEach es X.env)).any (·.1) = false := by rfl) :
    PE X (.Call (.Name x p) (e :: es) [] pos) (tCall sp [] E t) := by
  obtain ⟨f, fd, G, hm, hk, hb⟩ := D.ex
  constructor
  intro pins s σ H Q I h
  apply wpAny_Call_Name_kw
  apply ld_glob I hg hm _ hdb
  refine PySem.W.callWith_K (h₀ := X.base) I.ok.mod.kin hk (thn (ha.run pos pins s σ H _ I h) ?_) he hpl
  rintro us s1 ⟨vs, H1, I1, r, q⟩
  refine ⟨I1.kIn, runG G hB hr hb hx I1 r ?_⟩
  rw [List.append_nil] at q
  exact q
end

/-! ### the end of a law -/
section
theorem lawG {P : Program} {w : World} {K : PySem.W.Frag} {mg mb : Str → Option Value} {CX : CXT} {k : Nat}
    {fa a : Addr} {fd : FuncData} {x : Str} {sp : Sp} {s₁ : Shared} {vs : List Value} {ns : List Int}
    (KX : K.In s₁.heap) (hns : s₁.heap.Ns mainGlobals mg) (hb : s₁.heap.Ns builtinsNs mb)
    (hbb : ∀ x : Str, x ≠ "__name__" → mb x = bootBuiltins x) (hlim : s₁.heap.NoLimit) (hg : s₁.gens = #[])
    (ha : s₁.heap.get? a = some { cls := .type "list", data := .seq vs.toArray })
    (hi : IntsAre vs ns) (hl : ns.length ≤ sizeLine) (hr : Room k callerA)
    (F : ∀ base : Heap, K.In base → base.Ns mainGlobals mg → FnG P w K mg base CX k fa fd [x] sp)
    (hbind : ∀ (s : Shared) (u : Value), BindsTo s fd ⟨[u], []⟩ [(x, u)])
    (hsp : ∀ H : Hp, Only H → SqL K H a (ns.map V.int) → sp [.ref a] H (fun v _ => v = .bl true) fun _ _ _ => False)
    (hCX : ∀ H e s', CX [] H s₁ (fun _ _ _ => False) e s' → False) :
    codeAny (model P w) callerA (.call (.ref fa) ⟨[.ref a], []⟩)
      (fun r s' => r = .ok (.ret (.bool true)) ∧ OldK s₁.heap s'.heap ∧ s'.os = s₁.os ∧ AllBare s'.gens) s₁ := by
  have rv := vals_ints hi
  have lenV := hi.length
  have core : ∀ H : Hp, Only H → SqL K H a (ns.map V.int) → HOk P w H s₁.heap →
      (∀ b, H b ≠ none → b = a) → (H a ≠ none → K.lookup a = none) →
      codeAny (model P w) callerA (.call (.ref fa) ⟨[.ref a], []⟩)
        (fun r s' => r = .ok (.ret (.bool true)) ∧ OldK s₁.heap s'.heap ∧ s'.os = s₁.os ∧ AllBare s'.gens) s₁ := by
    intro H hO hS hok hA hK
    have noA : ∀ {b : Addr} {o : Obj} {es : Array DictEntry} {ep : Nat},
        s₁.heap.get? b = some o → o.data = .dict es ep → H b = none := by
      intro b o es ep e d
      rcases Option.eq_none_or_eq_some (H b) with q | ⟨u, q⟩
      · exact q
      · have e' : b = a := hA b (by rw [q]; simp)
        subst e'
        rw [ha] at e
        cases e
        cases d
    have nsK : ∀ {b : Addr} {m : Str → Option Value}, s₁.heap.Ns b m → (hidT s₁.heap H).Ns b m := by
      rintro b m ⟨o, es, ep, e, d, r⟩
      exact ⟨o, es, ep, hidT_get e (noA e d), d, r⟩
    have hKb : K.In (hidT s₁.heap H) := by
      intro b o e
      apply hidT_get (KX b o e)
      rcases Option.eq_none_or_eq_some (H b) with q | ⟨u, q⟩
      · exact q
      · have e' : b = a := hA b (by rw [q]; simp)
        subst e'
        rw [hK (by rw [q]; simp)] at e
        cases e
    obtain ⟨mc, h1, h2⟩ := hlim
    have hM : Mod K mg (hidT s₁.heap H) := ⟨hKb, nsK hns, ⟨mb, nsK hb, hbb⟩, ⟨mc, nsK h1, h2⟩⟩
    have e0 : Env0 P w K mg (hidT s₁.heap H) callerA [] s₁ H :=
      ⟨rfl, hM, fun b o e => of_hidT e, Nat.le_of_eq (hidT_size _ _), trivial,
        fun b hb => absurd (show b ∈ ([] : List Addr) from hb) (by simp), hok, .of_eq hg⟩
    have go := (F _ hKb (nsK hns)).run callerA [] s₁ H ⟨[.ref a], []⟩ [.ref a] [.ref a] _ _ bare_caller hr e0
      (hbind s₁ (.ref a)) (.cons rfl .nil) (hsp H hO hS)
    refine codeAny_mono go ?_
    intro r s' h
    match r, h with
    | .error e, h => exact (hCX H e s' h).elim
    | .ok .next, h => exact h.elim
    | .ok .brk, h => exact h.elim
    | .ok .cont, h => exact h.elim
    | .ok (.ret u), ⟨v, H', os, bare, un, hok', r', q⟩ =>
      have q' : v = .bl true := q
      subst q'
      obtain rfl : u = Value.bool true := r'
      refine ⟨rfl, OldK.of_keep fun b o e => ?_, os, bare⟩
      rcases hO b with z | ⟨ob, xs, z⟩
      · exact un.keep b o e z (by intro y; exact absurd (show b ∈ ([] : List Addr) from y) (by simp)) (by simp)
      · have e1 := (hok b _ z).1
        have e2 := (hok' b _ (un.frzs b ob _ z)).1
        rw [e] at e1
        cases e1
        exact e2
  rcases Option.eq_none_or_eq_some (K.lookup a) with hk | ⟨o, hk⟩
  · let ob : Obj := { cls := .type "list", data := .seq vs.toArray }
    let H0 : Hp := upd (fun _ => none) a (.frz ob (.lst (ns.map V.int)))
    have at_a : H0 a = some (.frz ob (.lst (ns.map V.int))) := upd_same
    have off : ∀ b, b ≠ a → H0 b = none := fun b hb => upd_ne hb
    refine core H0 ?_ (.inl (.inr ⟨ob, at_a⟩)) ?_ ?_ (fun _ => hk)
    · intro b
      by_cases hb : b = a
      · subst hb
        exact Or.inr ⟨_, _, at_a⟩
      · exact Or.inl (off b hb)
    · intro b u z
      by_cases hb : b = a
      · subst hb
        rw [at_a] at z
        cases z
        exact ⟨ha, by rw [List.length_map]; exact hl, vs, _, rv, ha⟩
      · rw [off b hb] at z
        cases z
    · intro b z
      by_cases hb : b = a
      · exact hb
      · exact absurd (off b hb) z
  · have e := KX a o hk
    rw [ha] at e
    cases e
    refine core (fun _ => none) (fun _ => .inl rfl) ?_ ?_ (fun b z => absurd rfl z) (fun z => absurd rfl z)
    · exact .inr ⟨_, vs.toArray, _, hk, rfl, rfl, rfl, by rw [List.size_toArray, lenV]; exact hl, by simpa using rv⟩
    · intro b u z
      have z' : (none : Option HO) = some u := z
      cases z'

theorem walkG {l : PySem.W.OpenLaw} {n k : Nat} {q : Program} {loose : List Str} {XP : (Str → Option Value) → Heap → Prop}
    {YP : World → Heap → Prop} {d : DefRec} {K : Params → PySem.W.Frag} {CX : World → CXT} {sp : World → Sp} {x : Str}
    (hn : l.most = some n) (hn2 : n ≤ sizeLine) (hdf : d.params.defaults = []) (hr : Room k callerA)
    (hY : ∀ (w : World) (h : Heap), YP w h → (K w.params).In h)
    (F : ∀ (w : World) (mg : Str → Option Value) (fa : Addr) (h : Heap), (K w.params).In h → h.Ns mainGlobals mg →
      mg d.name = some (.ref fa) → ∃ fd : FuncData, (∀ (s : Shared) (u : Value), BindsTo s fd ⟨[u], []⟩ [(x, u)]) ∧
        ∀ base : Heap, (K w.params).In base → base.Ns mainGlobals mg →
          FnG l.prog w (K w.params) mg base (CX w) k fa fd [x] (sp w))
    (hsp : ∀ (w : World) (H : Hp) (a : Addr) (ns : List Int), ns.length ≤ n → Only H →
      SqL (K w.params) H a (ns.map V.int) → sp w [.ref a] H (fun v _ => v = .bl true) fun _ _ _ => False)
    (hCX : ∀ (w : World) (H : Hp) (s : Shared) (e : Value) (s' : Shared), CX w [] H s (fun _ _ _ => False) e s' → False) :
    PySem.W.WalkO q loose XP YP l.row.toRowW d [] (fun f vs => PySem.call f vs) := by
  apply Att.attach_call hn hdf
  intro w s₀ s₁ mg mb fa o pm cd doc a vs ns G Y ho hd hcd hmg hobj hints hlen hg
  have KX := hY w _ Y
  obtain ⟨fd, hb, hF⟩ := F w mg fa _ KX G.T.g hmg
  exact lawG KX G.T.g G.T.b G.T.builtins G.T.nolimit hg hobj hints (Nat.le_trans hlen hn2) hr hF hb
    (fun H hO hS => hsp w H a ns hlen hO hS) (fun H e s' => hCX w H s₁ e s')
end

/-! ### data, and its repr -/
theorem Same.tup {K : PySem.W.Frag} {H H' : Hp} {a : Addr} {xs : List V} (e : Same H H') (h : SqT K H a xs) : SqT K H' a xs := by
  rcases h with (h | ⟨o, h⟩) | h
  · exact .inl (.inl (e _ _ h))
  · exact .inl (.inr ⟨o, e _ _ h⟩)
  · exact .inr h
theorem same_new {H : Hp} {p : Addr} {o : HO} (h : H p = none) : Same H (upd H p o) := fun b x e => by
  rw [upd_ne (ne_of_none e h)]
  exact e
mutual
theorem dp_same {K : PySem.W.Frag} {H H' : Hp} (e : Same H H') : ∀ {d : PyData} {v : V}, Dp K H v d → Dp K H' v d
  | _, _, .non => .non
  | _, _, .bl b => .bl b
  | _, _, .int i => .int i
  | _, _, .str x => .str x
  | _, _, .lst h t => .lst (L2.Same.seq e h) (dpAll_same e t)
  | _, _, .tup h t => .tup (Same.tup e h) (dpAll_same e t)
theorem dpAll_same {K : PySem.W.Frag} {H H' : Hp} (e : Same H H') : ∀ {ds : List PyData} {vs : List V}, DpAll K H vs ds → DpAll K H' vs ds
  | _, _, .nil => .nil
  | _, _, .cons h t => .cons (dp_same e h) (dpAll_same e t)
end

mutual
theorem dp_noDict {K : PySem.W.Frag} {H : Hp} : ∀ {d : PyData} {v : V}, Dp K H v d → d.hasDict = false
  | _, _, .non => rfl
  | _, _, .bl _ => rfl
  | _, _, .int _ => rfl
  | _, _, .str _ => rfl
  | _, _, .lst _ t => dpAll_noDict t
  | _, _, .tup _ t => dpAll_noDict t
theorem dpAll_noDict {K : PySem.W.Frag} {H : Hp} : ∀ {ds : List PyData} {vs : List V}, DpAll K H vs ds → PyData.hasDictAll ds = false
  | _, _, .nil => rfl
  | _, _, .cons h t => by
    unfold PyData.hasDictAll
    rw [dp_noDict h, dpAll_noDict t]
    rfl
end

/-- what may be written out: numbers below 2 ^ 1920, texts, not too long, not too deep -/
structure Neat (d : PyData) : Prop where
  sh : d.showable = true
  dp : d.depth ≤ 60
  sz : d.shown.length ≤ sizeLine

def rRepr (K : PySem.W.Frag) : List V → Hp → VK → Prop := fun xs H Q => ∃ v d, xs = [v] ∧ Dp K H v d ∧ Neat d ∧ Q (.str d.shown) H
theorem call_repr {X : Cx} (hB : Bare X.A) (hu : X.A.units + 64 < cLine) : CallR X (.builtin "repr") (rRepr X.K) := by
  intro pins s σ H xs us Q I r h
  obtain ⟨v, d, rfl, hd, hz, q⟩ := h
  obtain ⟨u, rfl, ru⟩ := vals1 r
  obtain ⟨as, rd⟩ := Dp.reads I d v u hd ru
  cases hd with
  | non =>
    cases (show u = Value.none from ru)
    exact PySem.P.repr_of_none ⟨.str _, H, I.tok _, ⟨_, rfl⟩, q⟩
  | bl b =>
    cases (show u = Value.bool b from ru)
    exact PySem.P.repr_of_bool ⟨.str _, H, I.tok _, ⟨_, rfl⟩, q⟩
  | int i =>
    obtain ⟨t, e⟩ := (show ∃ t, u = Value.int i t from ru)
    subst e
    exact PySem.P.repr_of_int (of_decide_eq_true hz.sh) ⟨.str _, H, I.tok _, ⟨_, rfl⟩, q⟩
  | str x =>
    obtain ⟨t, e⟩ := (show ∃ t, u = Value.str x t from ru)
    subst e
    exact PySem.P.repr_of_str ⟨.str _, H, I.tok _, ⟨_, rfl⟩, q⟩ hz.sz
  | @lst a ys ds h1 h2 =>
    cases (show u = Value.ref a from ru)
    exact repr_of_reads' rd hz.sh (PyData.noDict_hsm (dp_noDict (.lst h1 h2))) hB (by have := hz.dp; omega) (fun _ _ e => e)
      (fun h' u tk k => ⟨.str _, H, I.kept k, ⟨_, rfl⟩, q⟩) hz.sz
  | @tup a ys ds h1 h2 =>
    cases (show u = Value.ref a from ru)
    exact repr_of_reads' rd hz.sh (PyData.noDict_hsm (dp_noDict (.tup h1 h2))) hB (by have := hz.dp; omega) (fun _ _ e => e)
      (fun h' u tk k => ⟨.str _, H, I.kept k, ⟨_, rfl⟩, q⟩) hz.sz
end Ms

namespace Ms
open PySem PySem.Spec PyProof.Rows L2

/-! ### kinds -/
def kd : PyData → String
  | .none => "NoneType"
  | .bool _ => "bool"
  | .int _ => "int"
  | .str _ => "str"
  | .list _ => "list"
  | .tuple _ => "tuple"
  | .dict _ => "dict"
theorem ty_dp {K : PySem.W.Frag} {H : Hp} : ∀ {d : PyData} {v : V}, Dp K H v d → TyX K H v (.type (kd d))
  | _, _, .non => .base .non
  | _, _, .bl b => .base (.bl b)
  | _, _, .int i => .base (.int i)
  | _, _, .str x => .base (.str x)
  | _, _, .lst (.inl (.inl h)) _ => .base (.lst h)
  | _, _, .lst (.inl (.inr ⟨_, h⟩)) _ => .base (.frz h)
  | _, _, .lst (.inr ⟨o, its, n, h, c, _⟩) _ => .kList h c
  | _, _, .tup (.inl (.inl h)) _ => .base (.tup h)
  | _, _, .tup (.inl (.inr ⟨_, h⟩)) _ => .fTuple h
  | _, _, .tup (.inr ⟨o, its, n, h, c, _⟩) _ => .kTuple h c

def isInt : PyData → Bool
  | .int _ => true
  | .bool _ => true
  | _ => false
def isBool : PyData → Bool
  | .bool _ => true
  | _ => false
def isTup : PyData → Bool
  | .tuple _ => true
  | _ => false
def isStr : PyData → Bool
  | .str _ => true
  | _ => false
def isNum : PyData → Bool
  | .int _ => true
  | _ => false
theorem kit_int {K : PySem.W.Frag} : ∀ d : PyData, PySem.W.kitOne K (.type (kd d)) (.type "int") = some (isInt d)
  | .none => kit_ty (a := "NoneType") (b := "int") (r := false) (by decide +kernel)
  | .bool _ => kit_ty (a := "bool") (b := "int") (r := true) (by decide +kernel)
  | .int _ => kit_ty (a := "int") (b := "int") (r := true) (by decide +kernel)
  | .str _ => kit_ty (a := "str") (b := "int") (r := false) (by decide +kernel)
  | .list _ => kit_ty (a := "list") (b := "int") (r := false) (by decide +kernel)
  | .tuple _ => kit_ty (a := "tuple") (b := "int") (r := false) (by decide +kernel)
  | .dict _ => kit_ty (a := "dict") (b := "int") (r := false) (by decide +kernel)
theorem kit_bool {K : PySem.W.Frag} : ∀ d : PyData, PySem.W.kitOne K (.type (kd d)) (.type "bool") = some (isBool d)
  | .none => kit_ty (a := "NoneType") (b := "bool") (r := false) (by decide +kernel)
  | .bool _ => kit_ty (a := "bool") (b := "bool") (r := true) (by decide +kernel)
  | .int _ => kit_ty (a := "int") (b := "bool") (r := false) (by decide +kernel)
  | .str _ => kit_ty (a := "str") (b := "bool") (r := false) (by decide +kernel)
  | .list _ => kit_ty (a := "list") (b := "bool") (r := false) (by decide +kernel)
  | .tuple _ => kit_ty (a := "tuple") (b := "bool") (r := false) (by decide +kernel)
  | .dict _ => kit_ty (a := "dict") (b := "bool") (r := false) (by decide +kernel)
theorem kit_tup {K : PySem.W.Frag} : ∀ d : PyData, PySem.W.kitOne K (.type (kd d)) (.type "tuple") = some (isTup d)
  | .none => kit_ty (a := "NoneType") (b := "tuple") (r := false) (by decide +kernel)
  | .bool _ => kit_ty (a := "bool") (b := "tuple") (r := false) (by decide +kernel)
  | .int _ => kit_ty (a := "int") (b := "tuple") (r := false) (by decide +kernel)
  | .str _ => kit_ty (a := "str") (b := "tuple") (r := false) (by decide +kernel)
  | .list _ => kit_ty (a := "list") (b := "tuple") (r := false) (by decide +kernel)
  | .tuple _ => kit_ty (a := "tuple") (b := "tuple") (r := true) (by decide +kernel)
  | .dict _ => kit_ty (a := "dict") (b := "tuple") (r := false) (by decide +kernel)
theorem kit_str {K : PySem.W.Frag} : ∀ d : PyData, PySem.W.kitOne K (.type (kd d)) (.type "str") = some (isStr d)
  | .none => kit_ty (a := "NoneType") (b := "str") (r := false) (by decide +kernel)
  | .bool _ => kit_ty (a := "bool") (b := "str") (r := false) (by decide +kernel)
  | .int _ => kit_ty (a := "int") (b := "str") (r := false) (by decide +kernel)
  | .str _ => kit_ty (a := "str") (b := "str") (r := true) (by decide +kernel)
  | .list _ => kit_ty (a := "list") (b := "str") (r := false) (by decide +kernel)
  | .tuple _ => kit_ty (a := "tuple") (b := "str") (r := false) (by decide +kernel)
  | .dict _ => kit_ty (a := "dict") (b := "str") (r := false) (by decide +kernel)

/-! ### fractions, as plain data -/
def isPair : PyData → Bool
  | .tuple [_, _] => true
  | _ => false
/-- top and below have no common divisor, below above nought -/
def isFr : PyData → Bool
  | .tuple [.int a, .int b] => decide (1 ≤ b) && decide (Int.gcd a b = 1)
  | _ => false

/-! ### heaps: all but one object -/
def off (b : Addr) (H : Hp) : Hp := fun x => if x = b then none else H x
theorem off_at {b : Addr} {H : Hp} : off b H b = none := if_pos rfl
theorem off_ne {b x : Addr} {H : Hp} (h : x ≠ b) : off b H x = H x := if_neg h
theorem off_same (b : Addr) (H : Hp) : Same (off b H) H := fun x o e => by
  by_cases h : x = b
  · rw [h, off_at] at e
    cases e
  · rw [off_ne h] at e
    exact e
def Keep (b : Addr) (H H' : Hp) : Prop := Same (off b H) (off b H')
theorem Keep.refl (b : Addr) (H : Hp) : Keep b H H := L2.Same.refl _
theorem Keep.trans {b : Addr} {H H1 H2 : Hp} (x : Keep b H H1) (y : Keep b H1 H2) : Keep b H H2 := L2.Same.trans x y
theorem Keep.get {b x : Addr} {o : HO} {H H' : Hp} (k : Keep b H H') (h : x ≠ b) (e : H x = some o) : H' x = some o := by
  have z := k x o (by rw [off_ne h]; exact e)
  rw [off_ne h] at z
  exact z
theorem Keep.of {b : Addr} {H H' : Hp} (h : ∀ x o, x ≠ b → H x = some o → H' x = some o) : Keep b H H' := fun x o e => by
  by_cases hx : x = b
  · rw [hx, off_at] at e
    cases e
  · rw [off_ne hx] at e ⊢
    exact h x o hx e
theorem Keep.new {b p : Addr} {o : HO} {H : Hp} (h : H p = none) : Keep b H (upd H p o) := .of fun x u _ e => by
  rw [upd_ne (ne_of_none e h)]
  exact e
theorem Keep.at {b : Addr} {o : HO} {H : Hp} : Keep b H (upd H b o) := .of fun x u hx e => by
  rw [upd_ne hx]
  exact e
theorem Keep.same {b : Addr} {H H' : Hp} (s : Same H H') : Keep b H H' := .of fun x o _ e => s x o e
theorem Same.keep_new {b : Addr} {H H' : Hp} (k : Keep b H H') (hb : H b = none) : Same H H' := fun x o e => k.get (ne_of_none e hb) e
theorem off_new {b p : Addr} {o : HO} {H : Hp} (h : p ≠ b) : off b (upd H p o) p = some o := by rw [off_ne h, upd_same]
theorem off_upd {b : Addr} {o : HO} {H : Hp} : off b (upd H b o) = off b H := by
  funext x
  by_cases h : x = b
  · rw [h, off_at, off_at]
  · rw [off_ne h, off_ne h, upd_ne h]
/-- a tuple that stands stays: what is only read -/
theorem Keep.free {b p : Addr} {H H' : Hp} (k : Keep b H H') (h : p ≠ b) (n : H' p = none) : H p = none := by
  rcases Option.eq_none_or_eq_some (H p) with q | ⟨o, q⟩
  · exact q
  · rw [k.get h q] at n
    cases n

/-! ### the box of draws: its list [great number, seed, count] -/
def Box (H : Hp) (b : Addr) (n : Int) : Prop := ∃ A B C : Int, H b = some (.lst [.int A, .int B, .int C]) ∧ 0 ≤ A ∧ 0 ≤ B ∧ B < 2147483647 ∧ 0 ≤ C ∧ C ≤ n
theorem Box.some {H : Hp} {b : Addr} {n : Int} (h : Box H b n) : ∃ o, H b = some o := let ⟨_, _, _, e, _⟩ := h; ⟨_, e⟩
theorem Box.ne {H : Hp} {b p : Addr} {n : Int} (h : Box H b n) (hp : H p = none) : p ≠ b := by
  obtain ⟨o, e⟩ := h.some
  exact (ne_of_none e hp).symm
theorem Box.new {H : Hp} {b p : Addr} {n : Int} {o : HO} (h : Box H b n) (hp : H p = none) : Box (upd H p o) b n := by
  obtain ⟨A, B, C, e, r⟩ := h
  exact ⟨A, B, C, by rw [upd_ne (ne_of_none e hp)]; exact e, r⟩
theorem Box.same {H H' : Hp} {b : Addr} {n : Int} (h : Box H b n) (s : Same H H') : Box H' b n := by
  obtain ⟨A, B, C, e, r⟩ := h
  exact ⟨A, B, C, s _ _ e, r⟩
theorem Box.more {H : Hp} {b : Addr} {n m : Int} (h : Box H b n) (e : n ≤ m) : Box H b m := by
  obtain ⟨A, B, C, e1, h1, h2, h3, h4, h5⟩ := h
  exact ⟨A, B, C, e1, h1, h2, h3, h4, Int.le_trans h5 e⟩

/-! ### ints -/
theorem cmul_l {i j : Int} (h1 : -(2 ^ 64) < i) (h2 : i < 2 ^ 64) : CMul i j := .inl ⟨h1, h2⟩
theorem cmul_r {i j : Int} (h1 : -(2 ^ 64) < j) (h2 : j < 2 ^ 64) : CMul i j := .inr ⟨h1, h2⟩
theorem cdivp {i j : Int} (h : 0 < j) (h2 : j < 2 ^ 100) : CDivP i j := by
  refine ⟨h, PyProof.noPylong_of_log2 ?_⟩
  have : j.natAbs < 2 ^ 100 := by omega
  exact Nat.lt_of_lt_of_le (PySem.Flt.log2_lt_of (by decide) this) (by decide)
end Ms

namespace Ms
open PySem PySem.Spec PyProof.Rows L2

/-! ### a word between a piece and what follows it -/
section
variable {X : Cx}
def tMid (t u : TS) : TS := fun D σ H => ∃ M : L2.St → Hp → Prop, t { D with nx := M } σ H ∧ ∀ σ' H', M σ' H' → u D σ' H'
theorem pss_mid {st : Stmt} {rest : List Stmt} {t u : TS} (h1 : PS X st t) (h2 : PSs X rest u) : PSs X (st :: rest) (tMid t u) := by
  constructor
  rintro pins s σ H D I ⟨M, hm, hu⟩
  apply wpAny_execs_cons
  refine thn (h1.run pins s σ H { D with nx := M } I hm) ?_
  intro f s1 q
  match f, q with
  | .next, ⟨σ', H', I', q'⟩ => exact h2.run pins s1 σ' H' D I' (hu σ' H' q')
  | .ret v, q => exact q
  | .brk, q => exact q
  | .cont, q => exact q
def eMid (t : TE) : TE := fun σ H Q => ∃ M : V → Hp → Prop, t σ H M ∧ ∀ v H', M v H' → Q v H'
theorem pe_mid {e : Expr} {t : TE} (h : PE X e t) : PE X e (eMid t) := by
  constructor
  rintro pins s σ H Q I ⟨M, hm, hq⟩
  refine thn (h.run pins s σ H M I hm) ?_
  rintro u s1 ⟨v, H', I', r, m⟩
  exact ⟨v, H', I', r, hq v H' m⟩
end

/-! ### ledgers: what stands in a heap -/
def Led (L : List (Addr × HO)) (H : Hp) : Prop := ∀ (i : Nat) (p : Addr) (o : HO), L[i]? = some (p, o) → H p = some o
theorem Led.nil (H : Hp) : Led [] H := fun i p o e => by simp at e
theorem Led.same {L : List (Addr × HO)} {H H' : Hp} (l : Led L H) (s : Same H H') : Led L H' := fun i p o e => s _ _ (l i p o e)
theorem Led.new {L : List (Addr × HO)} {H : Hp} {p : Addr} {o : HO} (l : Led L H) (h : H p = none) : Led ((p, o) :: L) (upd H p o) := fun i q u e => by
  match i, e with
  | 0, e =>
    cases e
    exact upd_same
  | i + 1, e => exact (l.same (same_new h)) i q u e
theorem Led.offNew {L : List (Addr × HO)} {H : Hp} {b p : Addr} {o : HO} (l : Led L (off b H)) (h : H p = none) (hb : p ≠ b) : Led ((p, o) :: L) (off b (upd H p o)) := fun i q u e => by
  match i, e with
  | 0, e =>
    cases e
    exact off_new hb
  | i + 1, e => exact Keep.new h _ _ (l i q u e)

/-! ### what is new in a heap -/
def fresh (H H' : Hp) : Hp := fun x => match H x with
  | none => H' x
  | some _ => none
theorem fresh_none {H H' : Hp} {x : Addr} (h : H x = none) : fresh H H' x = H' x := by
  unfold fresh
  rw [h]
theorem fresh_some {H H' : Hp} {x : Addr} {o : HO} (h : H x = some o) : fresh H H' x = none := by
  unfold fresh
  rw [h]
theorem fresh_get {H H' : Hp} {x : Addr} {o : HO} (h : fresh H H' x = some o) : H x = none ∧ H' x = some o := by
  rcases Option.eq_none_or_eq_some (H x) with q | ⟨u, q⟩
  · rw [fresh_none q] at h
    exact ⟨q, h⟩
  · rw [fresh_some q] at h
    cases h
theorem fresh_same (H H' : Hp) : Same (fresh H H') H' := fun x o e => (fresh_get e).2
theorem fresh_keep {b : Addr} {H H1 H2 : Hp} {u : HO} (hb : H b = some u) (k : Keep b H1 H2) : Same (fresh H H1) (fresh H H2) := fun x o e => by
  obtain ⟨e1, e2⟩ := fresh_get e
  rw [fresh_none e1]
  exact k.get (ne_of_none hb e1).symm e2
/-- what stood stands somehow -/
def Dom (H H' : Hp) : Prop := ∀ x, H' x = none → H x = none
theorem Dom.refl (H : Hp) : Dom H H := fun _ h => h
theorem Dom.trans {H H1 H2 : Hp} (a : Dom H H1) (b : Dom H1 H2) : Dom H H2 := fun x h => a x (b x h)
theorem Dom.same {H H' : Hp} (s : Same H H') : Dom H H' := fun x h => s.free h
theorem Dom.upd (H : Hp) (p : Addr) (o : HO) : Dom H (upd H p o) := fun x h => by
  by_cases hx : x = p
  · rw [hx, upd_same] at h
    cases h
  · rw [upd_ne hx] at h
    exact h
theorem Dom.keep {b : Addr} {H H' : Hp} {o : HO} (k : Keep b H H') (hb : H' b = some o) : Dom H H' := fun x h => by
  by_cases hx : x = b
  · rw [hx, hb] at h
    cases h
  · exact k.free hx h
theorem fresh_mono {H H1 H2 : Hp} (d : Dom H H1) : Same (fresh H1 H2) (fresh H H2) := fun x o e => by
  obtain ⟨e1, e2⟩ := fresh_get e
  rw [fresh_none (d x e1)]
  exact e2
theorem fresh_off {H H' : Hp} {p : Addr} {u o : HO} (h : H p = some u) : fresh H (upd H' p o) = fresh H H' := by
  funext x
  by_cases hx : x = p
  · rw [hx, fresh_some h, fresh_some h]
  · rcases Option.eq_none_or_eq_some (H x) with q | ⟨v, q⟩
    · rw [fresh_none q, fresh_none q, upd_ne hx]
    · rw [fresh_some q, fresh_some q]
/-- a box of draws at b, from the heap H on: all else stands, and what the ledger tells is new -/
structure Al (b : Addr) (H Hc : Hp) (m : Int) (L : List (Addr × HO)) : Prop where
  bx : Box Hc b m
  kp : Keep b H Hc
  hb : ∃ o, H b = some o
  ld : Led L (fresh H Hc)
theorem Al.start {b : Addr} {H : Hp} {n : Int} (h : Box H b n) : Al b H H n [] := ⟨h, .refl _ _, h.some, .nil _⟩
theorem Al.dom {b : Addr} {H Hc : Hp} {m : Int} {L : List (Addr × HO)} (a : Al b H Hc m L) : Dom H Hc := by
  obtain ⟨o, e⟩ := a.bx.some
  exact Dom.keep a.kp e
theorem Al.new {b p : Addr} {H Hc : Hp} {m : Int} {L : List (Addr × HO)} {o : HO} (a : Al b H Hc m L) (h : Hc p = none) : Al b H (upd Hc p o) m ((p, o) :: L) := by
  refine ⟨a.bx.new h, a.kp.trans (.new h), a.hb, fun i q u e => ?_⟩
  have hp : H p = none := a.dom p h
  match i, e with
  | 0, e =>
    cases e
    rw [fresh_none hp, upd_same]
  | i + 1, e =>
    obtain ⟨e1, e2⟩ := fresh_get (a.ld i q u e)
    rw [fresh_none e1, upd_ne (ne_of_none e2 h)]
    exact e2
theorem Al.call {b : Addr} {H Hc H' : Hp} {m m' : Int} {L : List (Addr × HO)} (a : Al b H Hc m L) (k : Keep b Hc H') (h : Box H' b m') : Al b H H' m' L := by
  obtain ⟨o, e⟩ := a.hb
  exact ⟨h, a.kp.trans k, ⟨o, e⟩, a.ld.same (fresh_keep e k)⟩
theorem Al.get {b p : Addr} {H Hc : Hp} {m : Int} {L : List (Addr × HO)} {o : HO} (a : Al b H Hc m L) (i : Nat) (e : L[i]? = some (p, o)) : Hc p = some o := (fresh_get (a.ld i p o e)).2
/-- new objects alone -/
structure Lg (H Hc : Hp) (L : List (Addr × HO)) : Prop where
  sm : Same H Hc
  ld : Led L Hc
theorem Lg.start (H : Hp) : Lg H H [] := ⟨L2.Same.refl _, .nil _⟩
theorem Lg.new {H Hc : Hp} {p : Addr} {o : HO} {L : List (Addr × HO)} (a : Lg H Hc L) (h : Hc p = none) : Lg H (upd Hc p o) ((p, o) :: L) := ⟨a.sm.trans (same_new h), a.ld.new h⟩

/-! ### data that is short enough to be written out -/
structure Ok (d : PyData) (n w : Nat) : Prop where
  sh : d.showable = true
  dp : d.depth ≤ n
  lv : d.leavesShort 700 = true
  wt : d.weight ≤ w
structure OkAll (ds : List PyData) (n w : Nat) : Prop where
  sh : PyData.showableAll ds = true
  dp : PyData.depthAll ds ≤ n
  lv : PyData.leavesShortAll 700 ds = true
  wt : PyData.weightAll ds ≤ w
theorem Ok.neat {d : PyData} {n w : Nat} (h : Ok d n w) (hn : n ≤ 60) (hw : w ≤ 20000) : Neat d := by
  refine ⟨h.sh, Nat.le_trans h.dp hn, ?_⟩
  have e := PyData.shown_le 700 (by decide) d h.lv
  have e2 : (700 + 2) * d.weight ≤ 702 * 20000 := Nat.mul_le_mul (by decide) (Nat.le_trans h.wt hw)
  rw [sizeLine_eq]
  omega
theorem Ok.more {d : PyData} {n w n' w' : Nat} (h : Ok d n w) (hn : n ≤ n') (hw : w ≤ w') : Ok d n' w' := ⟨h.sh, Nat.le_trans h.dp hn, h.lv, Nat.le_trans h.wt hw⟩
theorem okAll_nil (n w : Nat) : OkAll [] n w := ⟨rfl, Nat.zero_le _, rfl, Nat.zero_le _⟩
theorem okAll_cons {d : PyData} {ds : List PyData} {n w1 w2 w : Nat} (h : Ok d n w1) (t : OkAll ds n w2) (hw : w1 + 1 + w2 ≤ w) : OkAll (d :: ds) n w := by
  refine ⟨?_, ?_, ?_, ?_⟩
  · show (d.showable && PyData.showableAll ds) = true
    rw [h.sh, t.sh]
    rfl
  · show max d.depth (PyData.depthAll ds) ≤ n
    exact Nat.max_le.mpr ⟨h.dp, t.dp⟩
  · show (d.leavesShort 700 && PyData.leavesShortAll 700 ds) = true
    rw [h.lv, t.lv]
    rfl
  · show d.weight + 1 + PyData.weightAll ds ≤ w
    have := h.wt
    have := t.wt
    omega
theorem ok_tup {ds : List PyData} {n w : Nat} (h : OkAll ds n w) : Ok (.tuple ds) (n + 1) w := ⟨h.sh, Nat.succ_le_succ h.dp, h.lv, h.wt⟩
theorem ok_lst {ds : List PyData} {n w : Nat} (h : OkAll ds n w) : Ok (.list ds) (n + 1) w := ⟨h.sh, Nat.succ_le_succ h.dp, h.lv, h.wt⟩
theorem ok_non (n : Nat) : Ok .none n 0 := ⟨rfl, Nat.zero_le _, rfl, Nat.le_refl _⟩
theorem ok_bl (b : Bool) (n : Nat) : Ok (.bool b) n 0 := ⟨rfl, Nat.zero_le _, rfl, Nat.le_refl _⟩
theorem text_short {i : Int} (h : i.natAbs < 2 ^ 690) : (Str.ofString (toString i)).length ≤ 700 := by
  rw [PySem.ofString_length]
  have := int_text_length_le (a := i) (k := 690) (by decide) (PySem.Flt.log2_lt_of (by decide) h)
  omega
theorem ok_int {i : Int} (n : Nat) (h : i.natAbs < 2 ^ 690) : Ok (.int i) n 690 := by
  have l := PySem.Flt.log2_lt_of (show 0 < 690 by decide) h
  refine ⟨decide_eq_true (Nat.lt_of_lt_of_le l (by decide)), Nat.zero_le _, decide_eq_true (text_short h), ?_⟩
  show (if i == 0 then 0 else i.natAbs.log2 + 1) ≤ 690
  split
  · exact Nat.zero_le _
  · omega
theorem char_small (c : Char) : c.toNat < 16 ^ 8 := by
  have h := c.val.toNat_lt
  have e : (16 : Nat) ^ 8 = 2 ^ 32 := by decide
  rw [e]
  exact h
theorem ok_text (n : Nat) (x : String) : Ok (.str (Str.ofString x)) n x.length := by
  refine ⟨rfl, Nat.zero_le _, ?_, ?_⟩
  · show (Str.ofString x).cps.toList.all (fun c => decide (c < 16 ^ 8)) = true
    rw [Str.ofString_eq_toList]
    rw [List.all_eq_true]
    intro c hc
    have hc' : c ∈ x.toList.map Char.toNat := hc
    obtain ⟨k, _, rfl⟩ := List.mem_map.mp hc'
    exact decide_eq_true (char_small k)
  · show (Str.ofString x).length ≤ _
    rw [PySem.ofString_length]
    exact Nat.le_refl _
theorem ok_str_int (n : Nat) {i : Int} (h : i.natAbs < 2 ^ 690) : Ok (.str (Str.ofString (toString i))) n 700 := by
  have e := int_text_length_le (a := i) (k := 690) (by decide) (PySem.Flt.log2_lt_of (by decide) h)
  exact (ok_text n (toString i)).more (Nat.le_refl _) (by omega)
end Ms

namespace Ms
open PySem PySem.Spec PyProof.Rows L2

/-! ### displays of written data -/
def tData (K : PySem.W.Frag) (d : PyData) : TE := fun _ H Q => ∀ v H', Same H H' → Dp K (fresh H H') v d → Q v H'
def tDatas (K : PySem.W.Frag) (ds : List PyData) : TA := fun _ H Q => ∀ vs H', Same H H' → DpAll K (fresh H H') vs ds → Q vs H'
theorem fresh_sub {H H1 H2 : Hp} (s : Same H1 H2) : Same (fresh H H1) (fresh H H2) := fun x o e => by
  obtain ⟨e1, e2⟩ := fresh_get e
  rw [fresh_none e1]
  exact s x o e2
theorem fresh_at {H H' : Hp} {p : Addr} {o : HO} (h : H p = none) : fresh H (upd H' p o) p = some o := by
  rw [fresh_none h, upd_same]
section
variable {X : Cx} {e : Expr} {es : List Expr} {pos : Pos}
theorem pe_weak {t t' : TE} (h : PE X e t) (w : ∀ σ H Q, t' σ H Q → t σ H Q) : PE X e t' :=
  ⟨fun pins s σ H Q I q => h.run pins s σ H Q I (w σ H Q q)⟩
theorem pa_weak {t t' : TA} (h : PA X es t) (w : ∀ σ H Q, t' σ H Q → t σ H Q) : PA X es t' :=
  ⟨fun pos pins s σ H Q I q => h.run pos pins s σ H Q I (w σ H Q q)⟩
theorem pd_of {te : TE} {d : PyData} {v : V} (h : PE X e te) (hv : ∀ σ H Q, Q v H → te σ H Q) (hd : ∀ H, Dp X.K H v d) : PE X e (tData X.K d) :=
  pe_weak h fun σ H Q q => hv σ H Q (q v H (L2.Same.refl H) (hd _))
theorem pd_int {i : Int} {j : Nat} : PE X (.Constant (.int i) j pos) (tData X.K (.int i)) := pd_of pe_int (fun _ _ _ q => q) (fun _ => .int i)
theorem pd_bl {b : Bool} {j : Nat} : PE X (.Constant (.bool b) j pos) (tData X.K (.bool b)) := pd_of pe_bl (fun _ _ _ q => q) (fun _ => .bl b)
theorem pd_non {j : Nat} : PE X (.Constant .none j pos) (tData X.K .none) := pd_of pe_non (fun _ _ _ q => q) (fun _ => .non)
theorem pd_str {x : Str} {j : Nat} : PE X (.Constant (.str x) j pos) (tData X.K (.str x)) := pd_of pe_str (fun _ _ _ q => q) (fun _ => .str x)
theorem pd_neg {i : Int} (h : PE X e (tData X.K (.int i))) : PE X (.UnaryOp .USub e pos) (tData X.K (.int (-i))) :=
  pe_weak (pe_un un_neg h) fun σ H Q q v H' sm dv => by
    cases dv
    exact ⟨i, rfl, q _ _ sm (.int _)⟩
theorem pd_add {e' : Expr} {i j : Int} (h : PE X e (tData X.K (.int i))) (h' : PE X e' (tData X.K (.int j))) : PE X (.BinOp e .Add e' pos) (tData X.K (.int (i + j))) :=
  pe_weak (pe_op op_add h h') fun σ H Q q v H' sm dv v2 H2 sm2 dv2 => by
    cases dv
    cases dv2
    exact ⟨i, j, rfl, rfl, q _ _ (sm.trans sm2) (.int _)⟩
theorem pd_pow {e' : Expr} {i j : Int} (h : PE X e (tData X.K (.int i))) (h' : PE X e' (tData X.K (.int j))) (hc : CPow i j) : PE X (.BinOp e .Pow e' pos) (tData X.K (.int (i ^ j.toNat))) :=
  pe_weak (pe_op op_pow h h') fun σ H Q q v H' sm dv v2 H2 sm2 dv2 => by
    cases dv
    cases dv2
    exact ⟨i, j, rfl, rfl, hc, q _ _ (sm.trans sm2) (.int _)⟩
theorem pds_nil : PA X [] (tDatas X.K []) := pa_weak pa_nil fun σ H Q q => q [] H (L2.Same.refl H) .nil
theorem pds_cons {d : PyData} {ds : List PyData} (h1 : PE X e (tData X.K d)) (h2 : PA X es (tDatas X.K ds))
    (hs : starEach (e :: es) X.env = (false, eval e X.env) :: starEach es X.env := by rfl) : PA X (e :: es) (tDatas X.K (d :: ds)) :=
  pa_weak (pa_cons h1 h2 hs) fun σ H Q q v H1 s1 d1 vs H2 s2 d2 =>
    q (v :: vs) H2 (s1.trans s2) (.cons (dp_same (fresh_sub s2) d1) (dpAll_same (fresh_mono (Dom.same s1)) d2))
theorem dpAll_len' {K : PySem.W.Frag} {H : Hp} : ∀ {xs : List V} {ds : List PyData}, DpAll K H xs ds → xs.length = ds.length
  | _, _, .nil => rfl
  | _, _, .cons _ t => by rw [List.length_cons, List.length_cons, dpAll_len' t]
theorem pd_tup {x1} {ds : List PyData} (h : PA X es (tDatas X.K ds)) (hl : ds.length ≤ sizeLine) : PE X (.Tuple es x1 pos) (tData X.K (.tuple ds)) :=
  pe_weak (pe_tup h) fun σ H Q q vs H1 s1 d1 => ⟨by rw [dpAll_len' d1]; exact hl, fun p np =>
    q (.ref p) _ (s1.trans (same_new np)) (.tup (.inl (.inl (fresh_at (s1.free np)))) (dpAll_same (fresh_sub (same_new np)) d1))⟩
theorem pd_lst {ds : List PyData} (h : PA X es (tDatas X.K ds)) (hl : ds.length ≤ sizeLine) : PE X (.List es pos) (tData X.K (.list ds)) :=
  pe_weak (pe_lst h) fun σ H Q q vs H1 s1 d1 => ⟨by rw [dpAll_len' d1]; exact hl, fun p np =>
    q (.ref p) _ (s1.trans (same_new np)) (.lst (.inl (.inl (fresh_at (s1.free np)))) (dpAll_same (fresh_sub (same_new np)) d1))⟩
end
end Ms

namespace Ms
open PySem PySem.Spec PyProof.Rows L2

/-! ### fractions as rational numbers -/
/-- the divisor that a fraction is made by -/
def dvs (t b : Int) : Int := if b < 0 then -(Nat.gcd t.natAbs b.natAbs : Int) else (Nat.gcd t.natAbs b.natAbs : Int)
theorem gcd_pos {t b : Int} (h : b ≠ 0) : 0 < Nat.gcd t.natAbs b.natAbs := Nat.gcd_pos_of_pos_right _ (by omega)
theorem dvs_ne {t b : Int} (h : b ≠ 0) : dvs t b ≠ 0 := by
  have := gcd_pos (t := t) h
  unfold dvs
  split <;> omega
theorem gcd_l (t b : Int) : ((Nat.gcd t.natAbs b.natAbs : Nat) : Int) ∣ t := Int.gcd_dvd_left t b
theorem gcd_r (t b : Int) : ((Nat.gcd t.natAbs b.natAbs : Nat) : Int) ∣ b := Int.gcd_dvd_right t b
theorem made_num {t b : Int} (h : b ≠ 0) : t.fdiv (dvs t b) = (Rat.divInt t b).num := by
  rw [Rat.num_divInt, Int.gcd_comm]
  have g := gcd_l t b
  show _ = b.sign * t / ((Nat.gcd t.natAbs b.natAbs : Nat) : Int)
  unfold dvs
  have gp := gcd_pos (t := t) h
  split
  · rename_i hb
    rw [Int.sign_eq_neg_one_of_neg hb, Int.fdiv_neg (by omega), if_pos g, Int.fdiv_eq_ediv_of_dvd g, Int.neg_mul, Int.one_mul, Int.neg_ediv_of_dvd g]
  · rename_i hb
    rw [Int.sign_eq_one_of_pos (by omega), Int.one_mul, Int.fdiv_eq_ediv_of_dvd g]
theorem made_den {t b : Int} (h : b ≠ 0) : b.fdiv (dvs t b) = ((Rat.divInt t b).den : Int) := by
  rw [Rat.den_divInt, if_neg h, Int.gcd_comm]
  have g := gcd_r t b
  show _ = ((b.natAbs / Nat.gcd t.natAbs b.natAbs : Nat) : Int)
  unfold dvs
  have gp := gcd_pos (t := t) h
  split
  · rename_i hb
    rw [Int.fdiv_neg (by omega), if_pos g, Int.fdiv_eq_ediv_of_dvd g, ← Int.neg_ediv_of_dvd g, Int.natCast_ediv]
    congr 1
    omega
  · rename_i hb
    rw [Int.fdiv_eq_ediv_of_dvd g, Int.natCast_ediv]
    congr 1
    omega
theorem num_le (t b : Int) : (Rat.divInt t b).num.natAbs ≤ t.natAbs := by
  by_cases h : b = 0
  · subst h
    rw [Rat.num_divInt]
    simp
  · have e := made_num (t := t) h
    rw [← e]
    have g := gcd_l t b
    have d : dvs t b ∣ t := by
      unfold dvs
      split
      · exact Int.neg_dvd.mpr g
      · exact g
    obtain ⟨k, hk⟩ := d
    have hd := dvs_ne (t := t) h
    have e2 : t.fdiv (dvs t b) = k := by
      conv => lhs; arg 1; rw [hk]
      exact Int.mul_fdiv_cancel_left k hd
    rw [e2]
    have e3 : t.natAbs = (dvs t b).natAbs * k.natAbs := by
      conv => lhs; rw [hk]
      exact Int.natAbs_mul _ _
    rw [e3]
    exact Nat.le_mul_of_pos_left _ (by omega)
theorem den_le {t b : Int} (h : b ≠ 0) : (Rat.divInt t b).den ≤ b.natAbs := by
  rw [Rat.den_divInt, if_neg h]
  exact Nat.div_le_self _ _
theorem cross {t b : Int} (h : b ≠ 0) : (Rat.divInt t b).num * b = t * ((Rat.divInt t b).den : Int) := by
  have e := Rat.num_divInt_den (Rat.divInt t b)
  have hd : ((Rat.divInt t b).den : Int) ≠ 0 := by
    have := (Rat.divInt t b).den_pos
    omega
  exact (Rat.divInt_eq_divInt_iff hd h).mp e
theorem den_pos' (q : Rat) : 0 < (q.den : Int) := by
  have := q.den_pos
  omega
theorem rat_of {x y : Rat} (h : x.num * (y.den : Int) = y.num * (x.den : Int)) : x = y := by
  rw [← Rat.num_divInt_den x, ← Rat.num_divInt_den y]
  refine (Rat.divInt_eq_divInt_iff ?_ ?_).mpr h
  · have := den_pos' x; omega
  · have := den_pos' y; omega
theorem plus_rat (a b : Rat) : Rat.divInt (a.num * b.den + b.num * a.den) (a.den * b.den) = a + b := by
  have h1 := den_pos' a
  have h2 := den_pos' b
  rw [← Rat.divInt_add_divInt a.num b.num (by omega) (by omega), Rat.num_divInt_den, Rat.num_divInt_den]
theorem less_rat (a b : Rat) : Rat.divInt (a.num * b.den - b.num * a.den) (a.den * b.den) = a - b := by
  have h1 := den_pos' a
  have h2 := den_pos' b
  rw [← Rat.divInt_sub_divInt a.num b.num (by omega) (by omega), Rat.num_divInt_den, Rat.num_divInt_den]
theorem times_rat (a b : Rat) : Rat.divInt (a.num * b.num) (a.den * b.den) = a * b := by
  rw [← Rat.divInt_mul_divInt, Rat.num_divInt_den, Rat.num_divInt_den]
theorem over_rat (a b : Rat) : Rat.divInt (a.num * b.den) (a.den * b.num) = a / b := by
  rw [Rat.div_def, ← Rat.divInt_mul_divInt, Rat.num_divInt_den, ← Rat.inv_divInt, Rat.num_divInt_den]

/-! ### a fraction in the heap -/
abbrev frV (q : Rat) : List V := [.int q.num, .int (q.den : Int)]
abbrev frD (q : Rat) : PyData := .tuple [.int q.num, .int (q.den : Int)]
theorem fr_fr (q : Rat) : isFr (frD q) = true := by
  show (decide (1 ≤ (q.den : Int)) && decide (Int.gcd q.num (q.den : Int) = 1)) = true
  rw [decide_eq_true (by have := den_pos' q; omega), decide_eq_true ?_]
  · rfl
  · have := q.reduced
    show Nat.gcd q.num.natAbs (q.den : Int).natAbs = 1
    rw [Int.natAbs_natCast]
    exact this
/-- handed in: a tuple or a list of top and below -/
def Fr (K : PySem.W.Frag) (H : Hp) (v : V) (q : Rat) : Prop := ∃ a, v = .ref a ∧ (SqL K H a (frV q) ∨ SqT K H a (frV q))
theorem Fr.same {K : PySem.W.Frag} {H H' : Hp} {v : V} {q : Rat} (h : Fr K H v q) (s : Same H H') : Fr K H' v q := by
  obtain ⟨a, e, h | h⟩ := h
  · exact ⟨a, e, .inl (L2.Same.seq s h)⟩
  · exact ⟨a, e, .inr (Same.tup s h)⟩
/-- its numbers are below 2 ^ n -/
structure Bd (q : Rat) (n : Nat) : Prop where
  top : q.num.natAbs < 2 ^ n
  bel : q.den < 2 ^ n
theorem Bd.more {q : Rat} {n m : Nat} (h : Bd q n) (e : n ≤ m) : Bd q m :=
  ⟨Nat.lt_of_lt_of_le h.top (Nat.pow_le_pow_right (by decide) e), Nat.lt_of_lt_of_le h.bel (Nat.pow_le_pow_right (by decide) e)⟩
theorem bd_div {t b : Int} {n : Nat} (hb : b ≠ 0) (h1 : t.natAbs < 2 ^ n) (h2 : b.natAbs < 2 ^ n) : Bd (Rat.divInt t b) n :=
  ⟨Nat.lt_of_le_of_lt (num_le t b) h1, Nat.lt_of_le_of_lt (den_le hb) h2⟩
theorem mul_lt {i j : Int} {a b : Nat} (ha : i.natAbs < 2 ^ a) (hb : j.natAbs < 2 ^ b) : (i * j).natAbs < 2 ^ (a + b) := wide_lt ha hb
theorem add_lt {i j : Int} {a : Nat} (ha : i.natAbs < 2 ^ a) (hb : j.natAbs < 2 ^ a) : (i + j).natAbs < 2 ^ (a + 1) := by
  have := Int.natAbs_add_le i j
  rw [Nat.pow_succ]
  omega
theorem sub_lt {i j : Int} {a : Nat} (ha : i.natAbs < 2 ^ a) (hb : j.natAbs < 2 ^ a) : (i - j).natAbs < 2 ^ (a + 1) := by
  have := Int.natAbs_sub_le i j
  rw [Nat.pow_succ]
  omega
theorem nat_lt_pow' {n k : Nat} (h : n < 2 ^ k) : ((n : Int)).natAbs < 2 ^ k := by
  rw [Int.natAbs_natCast]
  exact h
theorem lt_more {i : Int} {a b : Nat} (h : i.natAbs < 2 ^ a) (e : a ≤ b) : i.natAbs < 2 ^ b := Nat.lt_of_lt_of_le h (Nat.pow_le_pow_right (by decide) e)
theorem bd_plus {a b : Rat} {n m : Nat} (x : Bd a n) (y : Bd b m) : Bd (a + b) (n + m + 1) := by
  rw [← plus_rat]
  refine bd_div ?_ ?_ ?_
  · have := den_pos' a
    have := den_pos' b
    exact Int.ne_of_gt (Int.mul_pos (by omega) (by omega))
  · exact add_lt (mul_lt x.top (nat_lt_pow' y.bel)) (lt_more (mul_lt y.top (nat_lt_pow' x.bel)) (by omega))
  · exact lt_more (mul_lt (nat_lt_pow' x.bel) (nat_lt_pow' y.bel)) (by omega)
theorem bd_less {a b : Rat} {n m : Nat} (x : Bd a n) (y : Bd b m) : Bd (a - b) (n + m + 1) := by
  rw [← less_rat]
  refine bd_div ?_ ?_ ?_
  · have := den_pos' a
    have := den_pos' b
    exact Int.ne_of_gt (Int.mul_pos (by omega) (by omega))
  · exact sub_lt (mul_lt x.top (nat_lt_pow' y.bel)) (lt_more (mul_lt y.top (nat_lt_pow' x.bel)) (by omega))
  · exact lt_more (mul_lt (nat_lt_pow' x.bel) (nat_lt_pow' y.bel)) (by omega)
theorem bd_times {a b : Rat} {n m : Nat} (x : Bd a n) (y : Bd b m) : Bd (a * b) (n + m) := by
  rw [← times_rat]
  refine bd_div ?_ ?_ ?_
  · have := den_pos' a
    have := den_pos' b
    exact Int.ne_of_gt (Int.mul_pos (by omega) (by omega))
  · exact mul_lt x.top y.top
  · exact mul_lt (nat_lt_pow' x.bel) (nat_lt_pow' y.bel)
theorem bd_over {a b : Rat} {n m : Nat} (x : Bd a n) (y : Bd b m) (h : b.num ≠ 0) : Bd (a / b) (n + m) := by
  rw [← over_rat]
  refine bd_div ?_ ?_ ?_
  · have := den_pos' a
    exact Int.mul_ne_zero (by omega) h
  · exact mul_lt x.top (nat_lt_pow' y.bel)
  · exact mul_lt (nat_lt_pow' x.bel) y.top

/-! ### rules: an item of a list or a tuple, // by any divisor -/
section
variable {X : Cx}
def rPr (K : PySem.W.Frag) : R2 := fun x y H Q => ∃ p xs i v, x = .ref p ∧ y = .int i ∧ (SqL K H p xs ∨ SqT K H p xs) ∧ atI xs i = some v ∧ Q v H
theorem ix_pr : IxR X (rPr X.K) := by
  intro value slice pins s σ H x y v u Q I rx ry h hz
  obtain ⟨p, xs, i, w', ex, ey, hs | hs, ha, q⟩ := h
  · exact ix_list value slice pins s σ H x y v u Q I rx ry ⟨p, xs, i, w', ex, ey, hs, ha, q⟩ hz
  · exact ix_tup value slice pins s σ H x y v u Q I rx ry ⟨p, xs, i, w', ex, ey, hs, ha, q⟩ hz
/-- a divisor below 2 ^ 9000, of any sign -/
def CDivZ (_ j : Int) : Prop := j ≠ 0 ∧ j.natAbs.log2 < 9000
theorem op_fdivZ : OpR X (binaryOp .FloorDiv) (rI CDivZ fun i j => .int (i.fdiv j)) := opI fun i j _ _ _ _ _ hc q =>
  floordiv_int hc.1 q (.inl (PyProof.noPylong_of_log2 hc.2))
theorem cdivz {i j : Int} {n : Nat} (h : j ≠ 0) (hj : j.natAbs < 2 ^ n) (hn : n ≤ 8999) : CDivZ i j :=
  ⟨h, Nat.lt_of_lt_of_le (PySem.Flt.log2_lt_of (Nat.succ_pos n) (Nat.lt_of_lt_of_le hj (Nat.pow_le_pow_right (by decide) (Nat.le_succ n)))) (by omega)⟩
theorem mulx {i j : Int} {a b : Nat} (ha : i.natAbs < 2 ^ a) (hb : j.natAbs < 2 ^ b) (h : a + b ≤ 100000000) : CMulX i j := mulx_ok ha hb (by omega)
end
end Ms

namespace Ms
open PySem PySem.Spec PyProof.Rows L2

/-! ### a list that grows beside a box of draws; tuples that stand -/
structure Wk (b : Addr) (H Hc : Hp) (m : Int) (L : List (Addr × List V)) (tl : Addr) (xs : List V) : Prop where
  bx : Box Hc b m
  ne : tl ≠ b
  at_ : Hc tl = some (.lst xs)
  kp : ∀ x o, x ≠ b → x ≠ tl → H x = some o → Hc x = some o
  ld : ∀ p ys, (p, ys) ∈ L → Hc p = some (.tup ys)
theorem Wk.same {b tl : Addr} {H Hc H' : Hp} {m : Int} {L : List (Addr × List V)} {xs : List V} (a : Wk b H Hc m L tl xs) (s : Same Hc H') : Wk b H H' m L tl xs :=
  ⟨a.bx.same s, a.ne, s _ _ a.at_, fun x o h1 h2 e => s _ _ (a.kp x o h1 h2 e), fun p ys h => s _ _ (a.ld p ys h)⟩
theorem Wk.more {b tl : Addr} {H Hc : Hp} {m m' : Int} {L : List (Addr × List V)} {xs : List V} (a : Wk b H Hc m L tl xs) (h : m ≤ m') : Wk b H Hc m' L tl xs :=
  ⟨a.bx.more h, a.ne, a.at_, a.kp, a.ld⟩
theorem Box.noTup {H : Hp} {b p : Addr} {n : Int} {ys : List V} (h : Box H b n) (e : H p = Option.some (.tup ys)) : p ≠ b := by
  obtain ⟨_, _, _, e1, _⟩ := h
  exact ne_of e e1 (by intro z; cases z)
theorem Wk.call {b tl : Addr} {H Hc H' : Hp} {m m' : Int} {L : List (Addr × List V)} {xs : List V} (a : Wk b H Hc m L tl xs) (k : Keep b Hc H') (h : Box H' b m') : Wk b H H' m' L tl xs :=
  ⟨h, a.ne, k.get a.ne a.at_, fun x o h1 h2 e => k.get h1 (a.kp x o h1 h2 e), fun p ys hp => k.get (a.bx.noTup (a.ld p ys hp)) (a.ld p ys hp)⟩
theorem Wk.new {b tl p : Addr} {H Hc : Hp} {m : Int} {L : List (Addr × List V)} {xs : List V} {o : HO} (a : Wk b H Hc m L tl xs) (h : Hc p = none) : Wk b H (upd Hc p o) m L tl xs := a.same (same_new h)
theorem Wk.newT {b tl p : Addr} {H Hc : Hp} {m : Int} {L : List (Addr × List V)} {xs ys : List V} (a : Wk b H Hc m L tl xs) (h : Hc p = none) : Wk b H (upd Hc p (.tup ys)) m ((p, ys) :: L) tl xs := by
  have z := a.new (o := .tup ys) h
  refine ⟨z.bx, z.ne, z.at_, z.kp, fun q zs hq => ?_⟩
  rcases List.mem_cons.mp hq with e | hq
  · cases e
    exact upd_same
  · exact z.ld q zs hq
theorem Wk.app {b tl : Addr} {H Hc : Hp} {m : Int} {L : List (Addr × List V)} {xs ys : List V} (a : Wk b H Hc m L tl xs) : Wk b H (upd Hc tl (.lst ys)) m L tl ys := by
  refine ⟨?_, a.ne, upd_same, fun x o h1 h2 e => ?_, fun p zs hp => ?_⟩
  · obtain ⟨u1, u2, u3, e, r⟩ := a.bx
    exact ⟨u1, u2, u3, by rw [upd_ne a.ne.symm]; exact e, r⟩
  · rw [upd_ne h2]
    exact a.kp x o h1 h2 e
  · rw [upd_ne (ne_of (a.ld p zs hp) a.at_ (by intro z; cases z))]
    exact a.ld p zs hp
theorem Wk.tup {K : PySem.W.Frag} {b tl p : Addr} {H Hc : Hp} {m : Int} {L : List (Addr × List V)} {xs ys : List V} (a : Wk b H Hc m L tl xs) (h : (p, ys) ∈ L) : SqT K Hc p ys := .inl (.inl (a.ld p ys h))
theorem Wk.sub {b tl : Addr} {H Hc : Hp} {m : Int} {L L' : List (Addr × List V)} {xs : List V} (a : Wk b H Hc m L tl xs) (h : ∀ z ∈ L', z ∈ L) : Wk b H Hc m L' tl xs :=
  ⟨a.bx, a.ne, a.at_, a.kp, fun p ys hp => a.ld p ys (h _ hp)⟩
/-- each is a fraction's tuple in the ledger -/
def FrsIn (L : List (Addr × List V)) (xs : List V) (n : Nat) : Prop := ∀ x ∈ xs, ∃ a q, x = .ref a ∧ (a, frV q) ∈ L ∧ Bd q n
theorem FrsIn.sub {L L' : List (Addr × List V)} {xs : List V} {n : Nat} (h : FrsIn L xs n) (s : ∀ z ∈ L, z ∈ L') : FrsIn L' xs n := fun x hx => by
  obtain ⟨a, q, e, m, b⟩ := h x hx
  exact ⟨a, q, e, s _ m, b⟩
theorem FrsIn.more {L : List (Addr × List V)} {xs : List V} {n m : Nat} (h : FrsIn L xs n) (e : n ≤ m) : FrsIn L xs m := fun x hx => by
  obtain ⟨a, q, e1, m1, b⟩ := h x hx
  exact ⟨a, q, e1, m1, b.more e⟩
theorem FrsIn.snoc {L : List (Addr × List V)} {xs : List V} {n : Nat} {a : Addr} {q : Rat} (h : FrsIn L xs n) (m : (a, frV q) ∈ L) (b : Bd q n) : FrsIn L (xs ++ [.ref a]) n := fun x hx => by
  rcases List.mem_append.mp hx with hx | hx
  · exact h x hx
  · rw [List.mem_singleton.mp hx]
    exact ⟨a, q, rfl, m, b⟩
theorem dp_fr {K : PySem.W.Frag} {H : Hp} {p : Addr} {q : Rat} (h : SqT K H p (frV q)) : Dp K H (.ref p) (frD q) := .tup h (.cons (.int _) (.cons (.int _) .nil))
theorem fr_tup' {K : PySem.W.Frag} {H : Hp} {p : Addr} {q : Rat} (h : SqT K H p (frV q)) : Fr K H (.ref p) q := ⟨p, rfl, .inr h⟩
theorem eqv_yes {q r : Rat} (h : q = r) : PyData.eqv (frD q) (frD r) = true := by
  subst h
  exact SeqAt.eqv_refl _ rfl
theorem eqv_no {q r : Rat} (h : q = r) : (!PyData.eqv (frD q) (frD r)) = false := by
  rw [eqv_yes h]
  rfl
/-- a fraction that stands beside the box -/
theorem fr_off {K : PySem.W.Frag} {H H' : Hp} {b : Addr} {v : V} {q : Rat} (h : Fr K (off b H) v q) (k : Keep b H H') : Fr K (off b H') v q := h.same k
theorem fr_on {K : PySem.W.Frag} {H : Hp} {b : Addr} {v : V} {q : Rat} (h : Fr K (off b H) v q) : Fr K H v q := h.same (off_same b H)
theorem off_tup {K : PySem.W.Frag} {H : Hp} {b p : Addr} {q : Rat} (h : H p = some (.tup (frV q))) (hb : p ≠ b) : Fr K (off b H) (.ref p) q := ⟨p, rfl, .inr (.inl (.inl (by rw [off_ne hb]; exact h)))⟩
theorem off_lst {K : PySem.W.Frag} {H : Hp} {b p : Addr} {q : Rat} (h : H p = some (.lst (frV q))) (hb : p ≠ b) : Fr K (off b H) (.ref p) q := ⟨p, rfl, .inl (.inl (.inl (by rw [off_ne hb]; exact h)))⟩
end Ms

namespace K02
open PySem PySem.Spec PyProof.Rows L2 Ms
structure Bi (mg : Str → Option Value) : Prop where
  b_abs : mg "abs" = none
  b_all : mg "all" = none
  b_bool : mg "bool" = none
  b_divmod : mg "divmod" = none
  b_enumerate : mg "enumerate" = none
  b_int : mg "int" = none
  b_isinstance : mg "isinstance" = none
  b_len : mg "len" = none
  b_list : mg "list" = none
  b_max : mg "max" = none
  b_range : mg "range" = none
  b_tuple : mg "tuple" = none
  b_zip : mg "zip" = none
/-! ### the text -/
def topS (i : Nat) : Stmt := PySem.Challenge.pw_mashrunnings_k02_fractions_made.main.body.getD i (.Pass ⟨0, 0, 0, 0⟩)
theorem abs_if (i : Int) : (if i < 0 then -i else i) = (i.natAbs : Int) := by
  split <;> omega
theorem dpAll_len {K : PySem.W.Frag} {H : Hp} : ∀ {xs : List V} {ds : List PyData}, DpAll K H xs ds → xs.length = ds.length
  | _, _, .nil => rfl
  | _, _, .cons _ t => by rw [List.length_cons, List.length_cons, dpAll_len t]
theorem gcd_turn (x y : Nat) : Nat.gcd y (x % y) = Nat.gcd x y := by
  rw [Nat.gcd_comm x y, Nat.gcd_rec y x, Nat.gcd_comm]
theorem yes {σ : L2.St} {H : Hp} {A B : Hp → Prop} (h : A H) : tYes σ H fun b H3 => if b = true then A H3 else B H3 := by
  show (if true = true then A H else B H)
  rw [if_pos rfl]
  exact h
section
variable {P : Program} {w : World} {K : PySem.W.Frag} {mg : Str → Option Value} {base : Heap}
def spNum (K : PySem.W.Frag) : Sp := fun vs H Q _ => ∃ v d, vs = [v] ∧ Dp K H v d ∧ Q (.bl (isNum d)) H
theorem num_yes {d : PyData} (h : isInt d = true) : isNum d = !isBool d := by
  cases d <;> first | rfl | cases h
theorem num_no {d : PyData} (h : ¬ isInt d = true) : isNum d = false := by
  cases d <;> first | rfl | exact absurd rfl h
def spPair (K : PySem.W.Frag) : Sp := fun vs H Q _ => ∃ v d, vs = [v] ∧ Dp K H v d ∧ Q (.bl (isPair d)) H
theorem pair_len (ds : List PyData) : isPair (.tuple ds) = decide (V.int (ds.length : Nat) = V.int 2) := by
  match ds with
  | [] => rfl
  | [_] => rfl
  | [_, _] => rfl
  | _ :: _ :: _ :: r =>
    symm
    apply decide_eq_false
    intro z
    have z' := V.int.inj z
    simp only [List.length_cons] at z'
    omega
theorem pair_no {d : PyData} (h : ¬ isTup d = true) : isPair d = false := by
  cases d <;> first | rfl | exact absurd rfl h
def spGcd : Sp := fun vs H Q _ => ∃ x y : Nat, vs = [.int x, .int y] ∧ Q (.int (Nat.gcd x y : Nat)) H
theorem pair_inv {H : Hp} {v : V} {d : PyData} (h : isPair d = true) (hd : Dp K H v d) :
    ∃ a d1 d2 v1 v2, v = .ref a ∧ d = .tuple [d1, d2] ∧ SqT K H a [v1, v2] ∧ Dp K H v1 d1 ∧ Dp K H v2 d2 := by
  cases hd with
  | non => cases h
  | bl => cases h
  | int => cases h
  | str => cases h
  | lst => cases h
  | @tup a xs ds hs ha =>
    cases ha with
    | nil => cases h
    | cons h1 t =>
      cases t with
      | nil => cases h
      | cons h2 t2 =>
        cases t2 with
        | nil => exact ⟨a, _, _, _, _, rfl, rfl, hs, h1, h2⟩
        | cons _ _ => cases h
theorem num_inv {H : Hp} {v : V} {d : PyData} (h : isNum d = true) (hd : Dp K H v d) : ∃ i, v = .int i ∧ d = .int i := by
  cases hd with
  | int i => exact ⟨i, rfl, rfl⟩
  | non => cases h
  | bl => cases h
  | str => cases h
  | lst => cases h
  | tup => cases h
theorem fr_pair {d : PyData} (h : isPair d = false) : isFr d = false := by
  unfold isFr
  split
  · cases h
  · rfl
theorem fr_one {d1 d2 : PyData} (h : isNum d1 = false) : isFr (.tuple [d1, d2]) = false := by
  cases d1 <;> first | rfl | cases h
theorem fr_two {d1 d2 : PyData} (h : isNum d2 = false) : isFr (.tuple [d1, d2]) = false := by
  cases d1 <;> cases d2 <;> first | rfl | cases h
theorem fr_low {i j : Int} (h : j < 1) : isFr (.tuple [.int i, .int j]) = false := by
  show (decide (1 ≤ j) && _) = false
  rw [decide_eq_false (show ¬ (1 ≤ j) by omega)]
  rfl
theorem fr_gcd {i j : Int} (h : ¬ j < 1) : isFr (.tuple [.int i, .int j]) = decide (V.int (Nat.gcd i.natAbs j.natAbs : Nat) = V.int 1) := by
  show (decide (1 ≤ j) && decide (Int.gcd i j = 1)) = _
  rw [decide_eq_true (show 1 ≤ j by omega), Bool.true_and]
  apply decide_eq_decide.mpr
  constructor
  · intro y
    show V.int ((Int.gcd i j : Nat) : Int) = _
    rw [y]
    rfl
  · intro y
    have y2 : ((Int.gcd i j : Nat) : Int) = 1 := V.int.inj y
    omega
def spFr (K : PySem.W.Frag) : Sp := fun vs H Q _ => ∃ v d, vs = [v] ∧ Dp K H v d ∧ Q (.bl (isFr d)) H
/-! ### is_number, is_pair, common_divisor, is_fraction -/
abbrev sis_number : Stmt := topS 1
abbrev Nis_number : List Str := ["thing"]
theorem scis_number : FnScope ["thing"] ["thing"] (defScope sis_number) := ⟨rfl, rfl, rfl, by decide +kernel, rfl, by decide +kernel, by decide +kernel⟩

theorem ok_is_number {f : Addr} {fd : FuncData} (F : Fun K "is_number" "is_number" sis_number f fd) (E : Bi mg) :
    FnG P w K mg base CX0 1 f fd ["thing"] (spNum K) := by
  refine okG0 (k := 0) F scis_number (fun vs H Q E h => ?_) (fun cdv A outer s H vs Q E' hB hr h => ?_)
  · obtain ⟨v, d, rfl, _⟩ := h
    rfl
  · obtain ⟨v, d, rfl, hd, q⟩ := h
    refine ⟨_, (pss_one (ps_ret (pe_and (pe_callB call_isi (by rfl) E.b_isinstance (by decide +kernel) (pa_cons (pv 0) (pa_cons (pe_bltn (v := .ty "int") (by rfl) E.b_int (by decide +kernel) rfl) pa_nil))) (pe_one (pe_not (pe_callB call_isi (by rfl) E.b_isinstance (by decide +kernel) (pa_cons (pv 0) (pa_cons (pe_bltn (v := .ty "bool") (by rfl) E.b_bool (by decide +kernel) rfl) pa_nil)))))))), ?_⟩
    refine ⟨v, rfl, v, .ty "int", _, _, isInt d, rfl, .ty _, ty_dp hd, kit_int d, isInt d, rfl, ite2 (fun c => ?_) (fun c => ?_)⟩
    · refine ⟨v, rfl, v, .ty "bool", _, _, isBool d, rfl, .ty _, ty_dp hd, kit_bool d, isBool d, rfl, ?_⟩
      rw [num_yes c] at q
      exact q
    · rw [num_no c] at q
      exact q
abbrev sis_pair : Stmt := topS 2
abbrev Nis_pair : List Str := ["thing"]
theorem scis_pair : FnScope ["thing"] ["thing"] (defScope sis_pair) := ⟨rfl, rfl, rfl, by decide +kernel, rfl, by decide +kernel, by decide +kernel⟩

theorem ok_is_pair {f : Addr} {fd : FuncData} (F : Fun K "is_pair" "is_pair" sis_pair f fd) (E : Bi mg) :
    FnG P w K mg base CX0 1 f fd ["thing"] (spPair K) := by
  refine okG0 (k := 0) F scis_pair (fun vs H Q E h => ?_) (fun cdv A outer s H vs Q E' hB hr h => ?_)
  · obtain ⟨v, d, rfl, _⟩ := h
    rfl
  · obtain ⟨v, d, rfl, hd, q⟩ := h
    refine ⟨_, (pss_one (ps_ret (pe_and (pe_callB call_isi (by rfl) E.b_isinstance (by decide +kernel) (pa_cons (pv 0) (pa_cons (pe_bltn (v := .ty "tuple") (by rfl) E.b_tuple (by decide +kernel) rfl) pa_nil))) (pe_one (pe_cmpR op_eq (pe_callB call_len_seq (by rfl) E.b_len PySem.boot_len (pa_cons (pv 0) pa_nil)) pe_int (nomark _)))))), ?_⟩
    refine ⟨v, rfl, v, .ty "tuple", _, _, isTup d, rfl, .ty _, ty_dp hd, kit_tup d, isTup d, rfl, ite2 (fun c => ?_) (fun c => ?_)⟩
    · cases hd with
      | @tup a xs ds hs ha =>
        refine ⟨.ref a, rfl, a, xs, rfl, .inr hs, rfl, ?_⟩
        rw [pair_len, ← dpAll_len ha] at q
        exact q
      | non => cases c
      | bl => cases c
      | int => cases c
      | str => cases c
      | lst => cases c
    · rw [pair_no c] at q
      exact q
abbrev scommon_divisor : Stmt := topS 4
abbrev Ncommon_divisor : List Str := ["one", "other"]
theorem sccommon_divisor : FnScope ["one", "other"] ["one", "other"] (defScope scommon_divisor) := ⟨rfl, rfl, rfl, by decide +kernel, rfl, by decide +kernel, by decide +kernel⟩

theorem ok_common_divisor {f : Addr} {fd : FuncData} (F : Fun K "common_divisor" "common_divisor" scommon_divisor f fd) :
    FnG P w K mg base CX0 1 f fd ["one", "other"] spGcd := by
  refine okG0 (k := 0) F sccommon_divisor (fun vs H Q E h => ?_) (fun cdv A outer s H vs Q E' hB hr h => ?_)
  · obtain ⟨x, y, rfl, _⟩ := h
    rfl
  · obtain ⟨x, y, rfl, q⟩ := h
    refine ⟨_, (pss_cons (ps_while PassesOwn.never (pt_truth (pv 1) (by intro _; rfl))
        (pss_one (ps_par (i := 0) (j := 1) (by rfl) sccommon_divisor.nd rfl rfl (by decide) rfl rfl (pa_cons (pv 1) (pa_cons (pe_op op_mod (pv 0) (pv 1)) pa_nil)) (by rfl))))
      (pss_one (ps_ret (pv 0)))), ?_⟩
    refine ⟨fun m σ H' => ∃ a b : Nat, σ = [some (.int a), some (.int b)] ∧ m = b ∧ Nat.gcd a b = Nat.gcd x y ∧ H' = H, ⟨y, x, y, rfl, rfl, rfl, rfl⟩, ?_⟩
    rintro m σ H' ⟨a, b, rfl, rfl, hg, rfl⟩
    refine ⟨.int m, rfl, _, rfl, ite2 (fun c => ?_) (fun c => ?_)⟩
    · have hb : m ≠ 0 := fun z => by
        subst z
        exact Bool.noConfusion c
      refine ⟨fun σ' H'' => ∃ a' b' : Nat, σ' = [some (.int a'), some (.int b')] ∧ b' < m ∧ Nat.gcd a' b' = Nat.gcd x y ∧ H'' = H', fun σ' H'' z => ?_, ?_⟩
      · obtain ⟨a', b', e1, e2, e3, e4⟩ := z
        exact ⟨b', e2, a', b', e1, rfl, e3, e4⟩
      · refine ⟨.int m, rfl, .int a, rfl, .int m, rfl, a, m, rfl, rfl, (by omega), _, _, rfl, m, a % m, ?_, Nat.mod_lt _ (by omega), ?_, rfl⟩
        · rfl
        · rw [gcd_turn]
          exact hg
    · have hb : m = 0 := by
        by_cases z : m = 0
        · exact z
        · exact absurd (bne_iff_ne.mpr (by omega)) c
      subst hb
      refine ⟨.int a, rfl, ?_⟩
      rw [Nat.gcd_zero_right] at hg
      rw [hg]
      exact q
abbrev sis_fraction : Stmt := topS 5
abbrev Nis_fraction : List Str := ["thing", "top", "below"]
theorem scis_fraction : FnScope ["thing", "top", "below"] ["thing"] (defScope sis_fraction) := ⟨rfl, rfl, rfl, by decide +kernel, rfl, by decide +kernel, by decide +kernel⟩

theorem ok_is_fraction {f : Addr} {fd : FuncData} (F : Fun K "is_fraction" "is_fraction" sis_fraction f fd) (E : Bi mg)
    (d_is_pair : Def P w K mg base CX0 1 "is_pair" ["thing"] (spPair K)) (d_is_number : Def P w K mg base CX0 1 "is_number" ["thing"] (spNum K))
    (d_common_divisor : Def P w K mg base CX0 1 "common_divisor" ["one", "other"] spGcd) :
    FnG P w K mg base CX0 2 f fd ["thing"] (spFr K) := by
  refine okG0 (k := 1) F scis_fraction (fun vs H Q E h => ?_) (fun cdv A outer s H vs Q E' hB hr h => ?_)
  · obtain ⟨v, d, rfl, _⟩ := h
    rfl
  · obtain ⟨v, d, rfl, hd, q⟩ := h
    refine ⟨_, (pss_cons (ps_if (pt_not (pt_val (Ms.pcall d_is_pair hB (hr.mono (by first | decide | omega)) (by rfl) pass0 (pa_cons (pv 0) pa_nil)))) (pss_one (ps_ret pe_bl)) pss_nil)
      (pss_cons (ps_asg (pv 0) (pg_tup rfl (pgs_cons (pg_name (i := 1) scis_fraction.nd rfl (Or.inl rfl)) (pgs_cons (pg_name (i := 2) scis_fraction.nd rfl (Or.inl rfl)) pgs_nil))))
      (pss_cons (ps_if (PW.pt (pw_or (pt_not (pt_val (Ms.pcall d_is_number hB (hr.mono (by first | decide | omega)) (by rfl) pass0 (pa_cons (pv 1) pa_nil)))) (pw_or (pt_not (pt_val (Ms.pcall d_is_number hB (hr.mono (by first | decide | omega)) (by rfl) pass0 (pa_cons (pv 2) pa_nil)))) (pw_or1 (pt_cmpR op_lt (pv 2) pe_int (nomark _)))))) (pss_one (ps_ret pe_bl)) pss_nil)
      (pss_one (ps_ret (pe_cmpR op_eq (Ms.pcall d_common_divisor hB (hr.mono (by first | decide | omega)) (by rfl) pass0 (pa_cons (pe_callB call_abs (by rfl) E.b_abs (by decide +kernel) (pa_cons (pv 1) pa_nil)) (pa_cons (pv 2) pa_nil))) pe_int (nomark _))))))), ?_⟩
    refine ⟨v, rfl, v, d, rfl, hd, isPair d, rfl, ?_⟩
    rcases Bool.eq_false_or_eq_true (isPair d) with hp | hp
    · rw [hp]
      refine iteF ?_
      obtain ⟨a, d1, d2, v1, v2, rfl, rfl, hs, h1, h2⟩ := pair_inv hp hd
      refine ⟨.ref a, rfl, a, _, rfl, hs, rfl, v1, _, rfl, v2, _, rfl, rfl, ?_⟩
      refine ⟨v1, rfl, v1, d1, rfl, h1, isNum d1, rfl, ?_⟩
      rcases Bool.eq_false_or_eq_true (isNum d1) with n1 | n1
      · rw [n1]
        refine iteF ⟨v2, rfl, v2, d2, rfl, h2, isNum d2, rfl, ?_⟩
        rcases Bool.eq_false_or_eq_true (isNum d2) with n2 | n2
        · rw [n2]
          obtain ⟨i, rfl, rfl⟩ := num_inv n1 h1
          obtain ⟨j, rfl, rfl⟩ := num_inv n2 h2
          refine iteF ⟨.int j, rfl, j, 1, rfl, rfl, decide (j < 1), rfl, ite2 (fun c => ?_) (fun c => ?_)⟩
          · rw [fr_low (of_decide_eq_true c)] at q
            exact q
          · have hj : ¬ j < 1 := fun z => c (decide_eq_true z)
            rw [fr_gcd hj] at q
            refine ⟨.int i, rfl, i, rfl, .int j, rfl, i.natAbs, j.natAbs, ?_, rfl, q⟩
            rw [abs_if, Int.natAbs_of_nonneg (show 0 ≤ j by omega)]
            rfl
        · rw [n2]
          rw [fr_two n2] at q
          exact iteT q
      · rw [n1]
        rw [fr_one n1] at q
        exact iteT q
    · rw [hp]
      rw [fr_pair hp] at q
      exact iteT q
/-! ### the law's own is_number, apart, is_fraction -/
abbrev sL_is_number : Stmt := topS 15
abbrev NL_is_number : List Str := ["_law_thing"]
theorem scL_is_number : FnScope ["_law_thing"] ["_law_thing"] (defScope sL_is_number) := ⟨rfl, rfl, rfl, by decide +kernel, rfl, by decide +kernel, by decide +kernel⟩

theorem ok_L_is_number {f : Addr} {fd : FuncData} (F : Fun K "_law_is_number" "_law_is_number" sL_is_number f fd) (E : Bi mg) :
    FnG P w K mg base CX0 1 f fd ["_law_thing"] (spNum K) := by
  refine okG0 (k := 0) F scL_is_number (fun vs H Q E h => ?_) (fun cdv A outer s H vs Q E' hB hr h => ?_)
  · obtain ⟨v, d, rfl, _⟩ := h
    rfl
  · obtain ⟨v, d, rfl, hd, q⟩ := h
    refine ⟨_, (pss_one (ps_ret (pe_and (pe_callB call_isi (by rfl) E.b_isinstance (by decide +kernel) (pa_cons (pv 0) (pa_cons (pe_bltn (v := .ty "int") (by rfl) E.b_int (by decide +kernel) rfl) pa_nil))) (pe_one (pe_not (pe_callB call_isi (by rfl) E.b_isinstance (by decide +kernel) (pa_cons (pv 0) (pa_cons (pe_bltn (v := .ty "bool") (by rfl) E.b_bool (by decide +kernel) rfl) pa_nil)))))))), ?_⟩
    refine ⟨v, rfl, v, .ty "int", _, _, isInt d, rfl, .ty _, ty_dp hd, kit_int d, isInt d, rfl, ite2 (fun c => ?_) (fun c => ?_)⟩
    · refine ⟨v, rfl, v, .ty "bool", _, _, isBool d, rfl, .ty _, ty_dp hd, kit_bool d, isBool d, rfl, ?_⟩
      rw [num_yes c] at q
      exact q
    · rw [num_no c] at q
      exact q
abbrev sL_apart : Stmt := topS 16
abbrev NL_apart : List Str := ["_law_one", "_law_other"]
theorem scL_apart : FnScope ["_law_one", "_law_other"] ["_law_one", "_law_other"] (defScope sL_apart) := ⟨rfl, rfl, rfl, by decide +kernel, rfl, by decide +kernel, by decide +kernel⟩

def spApart : Sp := fun vs H Q _ => ∃ x y : Int, vs = [.int x, .int y] ∧ Q (.bl (decide (V.int (Nat.gcd x.natAbs y.natAbs : Nat) = V.int 1))) H
theorem ok_L_apart {f : Addr} {fd : FuncData} (F : Fun K "_law_apart" "_law_apart" sL_apart f fd) (E : Bi mg) :
    FnG P w K mg base CX0 1 f fd ["_law_one", "_law_other"] spApart := by
  refine okG0 (k := 0) F scL_apart (fun vs H Q E h => ?_) (fun cdv A outer s H vs Q E' hB hr h => ?_)
  · obtain ⟨x, y, rfl, _⟩ := h
    rfl
  · obtain ⟨x, y, rfl, q⟩ := h
    refine ⟨_, (pss_cons (ps_par (i := 0) (j := 1) (by rfl) scL_apart.nd rfl rfl (by decide) rfl rfl (pa_cons (pe_callB call_abs (by rfl) E.b_abs (by decide +kernel) (pa_cons (pv 0) pa_nil)) (pa_cons (pe_callB call_abs (by rfl) E.b_abs (by decide +kernel) (pa_cons (pv 1) pa_nil)) pa_nil)) (by rfl))
      (pss_cons (ps_while PassesOwn.never (pt_cmpR op_gt (pv 1) pe_int (nomark _))
        (pss_one (ps_par (i := 0) (j := 1) (by rfl) scL_apart.nd rfl rfl (by decide) rfl rfl (pa_cons (pv 1) (pa_cons (pe_op op_mod (pv 0) (pv 1)) pa_nil)) (by rfl))))
      (pss_one (ps_ret (pe_cmpR op_eq (pv 0) pe_int (nomark _)))))), ?_⟩
    refine ⟨.int x, rfl, x, rfl, .int y, rfl, y, rfl, _, _, rfl, ?_⟩
    rw [abs_if, abs_if]
    refine ⟨fun m σ H' => ∃ a b : Nat, σ = [some (.int a), some (.int b)] ∧ m = b ∧ Nat.gcd a b = Nat.gcd x.natAbs y.natAbs ∧ H' = H, ⟨y.natAbs, x.natAbs, y.natAbs, rfl, rfl, rfl, rfl⟩, ?_⟩
    rintro m σ H' ⟨a, b, rfl, rfl, hg, rfl⟩
    refine ⟨.int m, rfl, m, 0, rfl, rfl, _, rfl, ite2 (fun c => ?_) (fun c => ?_)⟩
    · have hb : (m : Int) > 0 := of_decide_eq_true c
      refine ⟨fun σ' H'' => ∃ a' b' : Nat, σ' = [some (.int a'), some (.int b')] ∧ b' < m ∧ Nat.gcd a' b' = Nat.gcd x.natAbs y.natAbs ∧ H'' = H', fun σ' H'' z => ?_, ?_⟩
      · obtain ⟨a', b', e1, e2, e3, e4⟩ := z
        exact ⟨b', e2, a', b', e1, rfl, e3, e4⟩
      · refine ⟨.int m, rfl, .int a, rfl, .int m, rfl, a, m, rfl, rfl, (by omega), _, _, rfl, m, a % m, ?_, Nat.mod_lt _ (by omega), ?_, rfl⟩
        · rfl
        · rw [gcd_turn]
          exact hg
    · have hb : m = 0 := by
        by_cases z : (m : Int) > 0
        · exact absurd (decide_eq_true z) c
        · omega
      subst hb
      rw [Nat.gcd_zero_right] at hg
      subst hg
      exact ⟨_, rfl, rfl, q⟩
abbrev sL_is_fraction : Stmt := topS 17
abbrev NL_is_fraction : List Str := ["_law_thing", "_law_part"]
theorem scL_is_fraction : FnScope ["_law_thing", "_law_part"] ["_law_thing"] (defScope sL_is_fraction) := ⟨rfl, rfl, rfl, by decide +kernel, rfl, by decide +kernel, by decide +kernel⟩

def spLFr (K : PySem.W.Frag) : Sp := fun vs H Q _ => ∃ v d, vs = [v] ∧ Dp K H v d ∧ ∀ H', Same H H' → Q (.bl (isFr d)) H'
theorem fr_tup {d : PyData} (h : ¬ isTup d = true) : isFr d = false := fr_pair (pair_no h)
theorem bl_two {d1 d2 : PyData} (h : isNum d1 = true) (h' : isNum d2 = true) : ([isNum d1, isNum d2] : List Bool).all id = true := by
  rw [h, h']
  rfl
theorem ok_L_is_fraction {f : Addr} {fd : FuncData} (F : Fun K "_law_is_fraction" "_law_is_fraction" sL_is_fraction f fd) (E : Bi mg)
    (d_L_is_number : Def P w K mg base CX0 1 "_law_is_number" ["_law_thing"] (spNum K))
    (d_L_apart : Def P w K mg base CX0 1 "_law_apart" ["_law_one", "_law_other"] spApart) :
    FnG P w K mg base CX0 2 f fd ["_law_thing"] (spLFr K) := by
  refine okG0 (k := 1) F scL_is_fraction (fun vs H Q E h => ?_) (fun cdv A outer s H vs Q E' hB hr h => ?_)
  · obtain ⟨v, d, rfl, _⟩ := h
    rfl
  · obtain ⟨v, d, rfl, hd, q⟩ := h
    refine ⟨_, (pss_cons (ps_if (PW.pt (pw_or (pt_not (pt_val (pe_callB call_isi (by rfl) E.b_isinstance (by decide +kernel) (pa_cons (pv 0) (pa_cons (pe_bltn (v := .ty "tuple") (by rfl) E.b_tuple (by decide +kernel) rfl) pa_nil))))) (pw_or (pt_cmpR op_ne (pe_callB call_len_seq (by rfl) E.b_len PySem.boot_len (pa_cons (pv 0) pa_nil)) pe_int (nomark _)) (pw_or1 (pt_not (pt_val (pe_callB (cr_all rfl) (by rfl) E.b_all (by decide +kernel) (pa_cons (pe_lc (own := [("_law_part", 1)]) (g := gName 1) (tt := tYes) rfl scL_is_fraction.nd (pi_tup (pv 0)) (blkOk_by (own := [("_law_part", 1)]) (N := NL_is_fraction) (sc := defScope sL_is_fraction) (by decide +kernel)) (fun _ _ _ _ _ => (pg_name (i := 1) scL_is_fraction.nd rfl (Or.inl rfl))) (fun _ _ _ _ _ => pts_nil) (fun _ _ _ _ _ => (Ms.pcall d_L_is_number hB (hr.mono (by first | decide | omega)) (by rfl) pass0 (pa_cons (pv 1) pa_nil)))) pa_nil)))))))) (pss_one (ps_ret pe_bl)) pss_nil)
      (pss_one (ps_ret (pe_and (pe_cmpR op_gt (pe_ix ix_tup (pv 0) pe_int (fun _ _ => rfl)) pe_int (nomark _)) (pe_one (Ms.pcall d_L_apart hB (hr.mono (by first | decide | omega)) (by rfl) pass0 (pa_cons (pe_ix ix_tup (pv 0) pe_int (fun _ _ => rfl)) (pa_cons (pe_ix ix_tup (pv 0) pe_int (fun _ _ => rfl)) pa_nil)))))))), ?_⟩
    refine ⟨v, rfl, v, .ty "tuple", _, _, isTup d, rfl, .ty _, ty_dp hd, kit_tup d, isTup d, rfl, ?_⟩
    rcases Bool.eq_false_or_eq_true (isTup d) with hp | hp
    · rw [hp]
      refine iteF ?_
      cases hd with
      | non => cases hp
      | bl => cases hp
      | int => cases hp
      | str => cases hp
      | lst => cases hp
      | @tup a xs ds hs ha =>
        refine ⟨.ref a, rfl, a, xs, rfl, .inr hs, rfl, _, rfl, ?_⟩
        have el := pair_len ds
        rw [← dpAll_len ha] at el
        rw [← el]
        rcases Bool.eq_false_or_eq_true (isPair (.tuple ds)) with hq | hq
        · rw [hq]
          refine iteF ?_
          obtain ⟨a', d1, d2, v1, v2, ea, ed, hs', h1, h2⟩ := pair_inv hq (Dp.tup hs ha)
          cases ea
          cases ed
          clear hs
          refine ⟨.ref a, rfl, a, rfl, ⟨_, hs'⟩, fun D nD => ?_⟩
          refine lc_tup (K := K) (a := a) (xs := [v1, v2]) (fun i H1 => Same H H1 ∧ H1 D = some (.lst (([isNum d1, isNum d2].take i).map V.bl))) ⟨same_new nD, upd_same⟩ (fun i H1 _ z => Same.tup z.1 hs') ?_ ?_
          · rintro i x H1 hx ⟨sm, eD⟩
            match i, hx with
            | 0, hx =>
              cases hx
              refine ⟨rfl, yes ?_⟩
              refine ⟨v1, rfl, v1, d1, rfl, dp_same sm h1, _, eD, (show 0 < sizeLine by decide), fun b o e => ?_, ?_⟩
              · rw [upd_ne (ne_of_none e nD)]
                exact sm b o e
              · rw [upd_same]
                rfl
            | 1, hx =>
              cases hx
              refine ⟨rfl, yes ?_⟩
              refine ⟨v2, rfl, v2, d2, rfl, dp_same sm h2, _, eD, (show 1 < sizeLine by decide), fun b o e => ?_, ?_⟩
              · rw [upd_ne (ne_of_none e nD)]
                exact sm b o e
              · rw [upd_same]
                rfl
            | n + 2, hx => cases hx
          · rintro H1 ⟨sm, eD⟩
            refine ⟨D, [isNum d1, isNum d2], rfl, .inl (.inl eD), _, rfl, ?_⟩
            rcases Bool.eq_false_or_eq_true (isNum d1) with n1 | n1
            · rcases Bool.eq_false_or_eq_true (isNum d2) with n2 | n2
              · rw [n1, n2]
                refine iteF ?_
                obtain ⟨i, rfl, rfl⟩ := num_inv n1 h1
                obtain ⟨j, rfl, rfl⟩ := num_inv n2 h2
                have ht := Same.tup sm hs'
                refine ⟨.ref a, rfl, a, _, 1, .int j, rfl, rfl, ht, rfl, j, 0, rfl, rfl, _, rfl, ite2 (fun c => ?_) (fun c => ?_)⟩
                · have hj : ¬ j < 1 := by
                    have := of_decide_eq_true c
                    omega
                  refine ⟨.ref a, rfl, a, _, 0, .int i, rfl, rfl, ht, rfl, .ref a, rfl, a, _, 1, .int j, rfl, rfl, ht, rfl, i, j, rfl, ?_⟩
                  have q' := q H1 sm
                  rw [fr_gcd hj] at q'
                  exact q'
                · have hj : j < 1 := by
                    by_cases z : j > 0
                    · exact absurd (decide_eq_true z) c
                    · omega
                  have q' := q H1 sm
                  rw [fr_low hj] at q'
                  exact q'
              · rw [n1, n2]
                refine iteT ?_
                have q' := q H1 sm
                rw [fr_two n2] at q'
                exact q'
            · rw [n1]
              refine iteT ?_
              have q' := q H1 sm
              rw [fr_one n1] at q'
              exact q'
        · rw [hq]
          refine iteT ?_
          have q' := q H (L2.Same.refl H)
          rw [fr_pair hq] at q'
          exact q'
    · rw [hp]
      refine iteT ?_
      have q' := q H (L2.Same.refl H)
      rw [fr_tup (by rw [hp]; decide)] at q'
      exact q'
/-! ### the draws -/
abbrev sL_box : Stmt := topS 12
abbrev NL_box : List Str := ["_law_script", "_law_k", "_law_cell"]
theorem scL_box : FnScope ["_law_script", "_law_k", "_law_cell"] ["_law_script", "_law_k"] (defScope sL_box) := ⟨rfl, rfl, rfl, by decide +kernel, rfl, by decide +kernel, by decide +kernel⟩

def spBox (K : PySem.W.Frag) : Sp := fun vs H Q _ => ∃ (a : Addr) (ns : List Int) (k : Int), vs = [.ref a, .int k] ∧ SqL K H a (ns.map V.int) ∧ 0 ≤ k ∧ k ≤ 100 ∧
  ∀ p H', H p = none → Same H H' → Box H' p 0 → Q (.ref p) H'
theorem int_at {ns : List Int} {k : Int} (h0 : 0 ≤ k) (h : k < ns.length) : ∃ c, atI (ns.map V.int) k = some (.int c) := by
  have hk : k.toNat < ns.length := by omega
  refine ⟨ns[k.toNat], at_of (j := k.toNat) (by omega) ?_⟩
  rw [List.getElem?_map, List.getElem?_eq_getElem hk]
  rfl
theorem box_first (c : Int) (k : Bool) : 0 ≤ (if c < 0 then -c else c) * (if k = true then 1 else 0) := by
  cases k
  · rw [if_neg Bool.false_ne_true, Int.mul_zero]
    exact Int.le_refl 0
  · rw [if_pos rfl, Int.mul_one]
    split <;> omega
theorem cmul_b (i : Int) (k : Bool) : CMul i (if k = true then 1 else 0) := by
  cases k
  · exact cmul_r (by decide) (by decide)
  · exact cmul_r (by decide) (by decide)
theorem ok_L_box {f : Addr} {fd : FuncData} (F : Fun K "_law_box" "_law_box" sL_box f fd) (E : Bi mg) :
    FnG P w K mg base CX0 1 f fd ["_law_script", "_law_k"] (spBox K) := by
  refine okG0 (k := 0) F scL_box (fun vs H Q E h => ?_) (fun cdv A outer s H vs Q E' hB hr h => ?_)
  · obtain ⟨a, ns, k, rfl, _⟩ := h
    rfl
  · obtain ⟨a, ns, k, rfl, hS, k0, k1, q⟩ := h
    refine ⟨_, (pss_cons (ps_set (i := 2) scL_box.nd rfl (Or.inl rfl) (pe_ifExp (pt_cmpR op_lt (pv 1) (pe_callB call_len_seq (by rfl) E.b_len PySem.boot_len (pa_cons (pv 0) pa_nil)) (nomark _)) (pe_ix ix_list (pv 0) (pv 1) (fun _ _ => rfl)) pe_int))
      (pss_one (ps_ret (pe_lst (pa_cons (pe_op op_mul (pe_callB call_abs (by rfl) E.b_abs (by decide +kernel) (pa_cons (pv 2) pa_nil)) (pe_callTy call_int1 (by rfl) E.b_int (by decide +kernel) (pa_cons (pe_cmpR op_ge (pe_callB call_abs (by rfl) E.b_abs (by decide +kernel) (pa_cons (pv 2) pa_nil)) (pe_op op_pow pe_int pe_int) (nomark _)) pa_nil))) (pa_cons (pe_op op_mod (pe_op op_mul (pe_op op_add (pe_op op_add (pe_op op_mod (pv 2) pe_int) (pe_op op_mul pe_int (pv 1))) pe_int) pe_int) pe_int) (pa_cons pe_int pa_nil))))))), ?_⟩
    refine ⟨.int k, rfl, .ref a, rfl, a, _, rfl, .inl hS, k, _, rfl, rfl, _, rfl, ite2 (fun c => ?_) (fun c => ?_)⟩
    · have hk : k < ns.length := by
        have := of_decide_eq_true c
        rw [List.length_map] at this
        exact this
      obtain ⟨z, hz⟩ := int_at k0 hk
      refine ⟨.ref a, rfl, .int k, rfl, a, _, k, .int z, rfl, rfl, hS, hz, ?_⟩
      refine ⟨_, rfl, _, rfl, _, rfl, _, rfl, _, _, rfl, rfl, ⟨by decide, by decide, by decide⟩, _, _, rfl, rfl, .inr ⟨_, rfl, _, _, rfl, rfl, cmul_b _ _, ?_⟩⟩
      refine ⟨_, rfl, _, _, rfl, rfl, (show (0 : Int) < 2147483629 by decide), _, rfl, _, _, rfl, rfl, cmul_l (by decide) (by decide), _, _, rfl, rfl, _, _, rfl, rfl, _, _, rfl, rfl, cmul_r (by decide) (by decide), _, _, rfl, rfl, (show (0 : Int) < 2147483647 by decide), ?_⟩
      exact ⟨(show 3 ≤ sizeLine by decide), fun p np => q p _ np (same_new np) ⟨_, _, 0, upd_same, box_first _ _, Int.emod_nonneg _ (by decide), Int.emod_lt_of_pos _ (by decide), Int.le_refl 0, Int.le_refl 0⟩⟩
    · refine ⟨_, rfl, _, rfl, _, rfl, _, rfl, _, _, rfl, rfl, ⟨by decide, by decide, by decide⟩, _, _, rfl, rfl, .inr ⟨_, rfl, _, _, rfl, rfl, cmul_b _ _, ?_⟩⟩
      refine ⟨_, rfl, _, _, rfl, rfl, (show (0 : Int) < 2147483629 by decide), _, rfl, _, _, rfl, rfl, cmul_l (by decide) (by decide), _, _, rfl, rfl, _, _, rfl, rfl, _, _, rfl, rfl, cmul_r (by decide) (by decide), _, _, rfl, rfl, (show (0 : Int) < 2147483647 by decide), ?_⟩
      exact ⟨(show 3 ≤ sizeLine by decide), fun p np => q p _ np (same_new np) ⟨_, _, 0, upd_same, box_first _ _, Int.emod_nonneg _ (by decide), Int.emod_lt_of_pos _ (by decide), Int.le_refl 0, Int.le_refl 0⟩⟩
abbrev sL_take : Stmt := topS 13
abbrev NL_take : List Str := ["_law_box_here", "_law_size_here", "_law_found", "_law_step", "_law_once", "_law_twice"]
theorem scL_take : FnScope ["_law_box_here", "_law_size_here", "_law_found", "_law_step", "_law_once", "_law_twice"] ["_law_box_here", "_law_size_here"] (defScope sL_take) := ⟨rfl, rfl, rfl, by decide +kernel, rfl, by decide +kernel, by decide +kernel⟩

def spTake : Sp := fun vs H Q _ => ∃ (b : Addr) (n m : Int), vs = [.ref b, .int m] ∧ Box H b n ∧ n < 2 ^ 40 ∧ 0 < m ∧ m < 2 ^ 100 ∧
  ∀ r H', 0 ≤ r → r < m → Box H' b (n + 1) → Keep b H H' → Q (.int r) H'
theorem ok_L_take {f : Addr} {fd : FuncData} (F : Fun K "_law_take" "_law_take" sL_take f fd) (E : Bi mg) :
    FnG P w K mg base CX0 1 f fd ["_law_box_here", "_law_size_here"] spTake := by
  refine okG0 (k := 0) F scL_take (fun vs H Q E h => ?_) (fun cdv A outer s H vs Q E' hB hr h => ?_)
  · obtain ⟨b, n, m, rfl, _⟩ := h
    rfl
  · obtain ⟨b, n, m, rfl, ⟨a, u, c, eb, a0, u0, u1, c0, c1⟩, n1, m0, m1, q⟩ := h
    refine ⟨_, (pss_cons (ps_if (pt_cmpR op_gt (pe_ix ix_list (pv 0) pe_int (fun _ _ => rfl)) pe_int (nomark _)) (pss_cons (ps_asg (pe_callB call_divmodW (by rfl) E.b_divmod (by decide +kernel) (pa_cons (pe_ix ix_list (pv 0) pe_int (fun _ _ => rfl)) (pa_cons (pv 1) pa_nil))) (pg_tup rfl (pgs_cons (pg_sub (pv 0) pe_int set_list) (pgs_cons (pg_name (i := 2) scL_take.nd rfl (Or.inl rfl)) pgs_nil))))
        (pss_one (ps_ret (pv 2)))) pss_nil)
      (pss_cons (ps_asg (pe_op op_add (pe_ix ix_list (pv 0) pe_int (fun _ _ => rfl)) pe_int) (pg_sub (pv 0) pe_int set_list))
      (pss_cons (ps_set (i := 3) scL_take.nd rfl (Or.inl rfl) (pe_op op_add pe_int (pe_op op_mul (pe_ix ix_list (pv 0) pe_int (fun _ _ => rfl)) (pe_ix ix_list (pv 0) pe_int (fun _ _ => rfl)))))
      (pss_cons (ps_set (i := 4) scL_take.nd rfl (Or.inl rfl) (pe_op op_mod (pe_op op_mul (pe_op op_add (pe_ix ix_list (pv 0) pe_int (fun _ _ => rfl)) (pe_op op_mul pe_int (pe_ix ix_list (pv 0) pe_int (fun _ _ => rfl)))) (pv 3)) pe_int))
      (pss_cons (ps_set (i := 5) scL_take.nd rfl (Or.inl rfl) (pe_op op_mod (pe_op op_add (pe_op op_mul (pv 4) (pe_op op_add (pe_op op_mod (pv 4) pe_int) pe_int)) (pe_ix ix_list (pv 0) pe_int (fun _ _ => rfl))) pe_int))
      (pss_one (ps_ret (pe_op op_mod (pe_op op_fdiv (pe_op op_mod (pe_op op_mul (pv 5) (pe_op op_add (pe_op op_mod (pv 5) pe_int) pe_int)) pe_int) pe_int) (pv 1))))))))), ?_⟩
    have S : SqL K H b [.int a, .int u, .int c] := .inl (.inl eb)
    refine ⟨.ref b, rfl, b, _, 0, .int a, rfl, rfl, S, rfl, a, 0, rfl, rfl, _, rfl, ite2 (fun z => ?_) (fun z => ?_)⟩
    · refine ⟨.ref b, rfl, b, _, 0, .int a, rfl, rfl, S, rfl, .int m, rfl, a, m, rfl, cdivp m0 m1, fun p np => ?_⟩
      have ne : b ≠ p := ne_of_none eb np
      refine ⟨p, _, rfl, .inl (.inl upd_same), rfl, _, _, rfl, .ref b, rfl, b, [.int a, .int u, .int c], 0, 0, rfl, rfl, ?_, rfl, _, _, rfl, rfl, ?_⟩
      · rw [upd_ne ne]
        exact eb
      refine ⟨_, rfl, ?_⟩
      refine q _ _ (Int.emod_nonneg _ (by omega)) (Int.emod_lt_of_pos _ m0) ⟨_, u, c, upd_same, Int.ediv_nonneg a0 (by omega), u0, u1, c0, by omega⟩ ?_
      exact (Keep.new np).trans Keep.at
    · refine ⟨.ref b, rfl, b, _, 2, .int c, rfl, rfl, S, rfl, c, 1, rfl, rfl, .ref b, rfl, b, _, 2, 2, rfl, rfl, eb, rfl, ?_⟩
      have S2 : SqL K (upd H b (.lst [.int a, .int u, .int (c + 1)])) b [.int a, .int u, .int (c + 1)] := .inl (.inl upd_same)
      refine ⟨.ref b, rfl, b, _, 2, .int (c + 1), rfl, rfl, S2, rfl, .ref b, rfl, b, _, 2, .int (c + 1), rfl, rfl, S2, rfl, _, _, rfl, rfl, cmul_l (by omega) (by omega), _, _, rfl, rfl, ?_⟩
      refine ⟨.ref b, rfl, b, _, 1, .int u, rfl, rfl, S2, rfl, .ref b, rfl, b, _, 2, .int (c + 1), rfl, rfl, S2, rfl, _, _, rfl, rfl, cmul_l (by decide) (by decide), _, _, rfl, rfl, _, rfl, _, _, rfl, rfl, cmul_l ?_ ?_, _, _, rfl, rfl, (show (0 : Int) < 2147483587 by decide), ?_⟩
      · omega
      · omega
      refine ⟨_, rfl, _, rfl, _, _, rfl, rfl, (show (0 : Int) < 30011 by decide), _, _, rfl, rfl, _, _, rfl, rfl, cmul_l (by omega) (by omega), .ref b, rfl, b, _, 2, .int (c + 1), rfl, rfl, S2, rfl, _, _, rfl, rfl, _, _, rfl, rfl, (show (0 : Int) < 2147483563 by decide), ?_⟩
      refine ⟨_, rfl, _, rfl, _, _, rfl, rfl, (show (0 : Int) < 1013 by decide), _, _, rfl, rfl, _, _, rfl, rfl, cmul_l (by omega) (by omega), _, _, rfl, rfl, (show (0 : Int) < 998244353 by decide), _, _, rfl, rfl, ⟨by decide, by decide⟩, .int m, rfl, _, _, rfl, rfl, m0, ?_⟩
      exact q _ _ (Int.emod_nonneg _ (by omega)) (Int.emod_lt_of_pos _ m0) ⟨a, u, c + 1, upd_same, a0, u0, u1, by omega, by omega⟩ Keep.at
/-! ### the script folded -/
abbrev sL_folded : Stmt := topS 14
abbrev NL_folded : List Str := ["_law_script", "_law_size_here", "_law_cells", "_law_k", "_law_cell"]
theorem scL_folded : FnScope ["_law_script", "_law_size_here", "_law_cells", "_law_k", "_law_cell"] ["_law_script", "_law_size_here"] (defScope sL_folded) := ⟨rfl, rfl, rfl, by decide +kernel, rfl, by decide +kernel, by decide +kernel⟩

def spFold (K : PySem.W.Frag) : Sp := fun vs H Q _ => ∃ (a : Addr) (ns : List Int) (m : Nat), vs = [.ref a, .int m] ∧ SqL K H a (ns.map V.int) ∧ ns.length ≤ 63 ∧ 1 ≤ m ∧ m ≤ 63 ∧
  ∀ p (cs : List Int) H', H p = none → Same H H' → H' p = some (.lst (cs.map V.int)) → cs.length = min m ns.length → Q (.ref p) H'
theorem cut_head (ns : List Int) (m : Nat) : cutV (ns.map V.int) none (some (m : Int)) = (ns.take (min m ns.length)).map V.int := by
  unfold cutV
  rw [HT.sIx_none, HT.sIx_nat, List.length_map, List.drop_zero, Nat.sub_zero, List.map_take]
theorem cut_tail (ns : List Int) (m k : Nat) : cutV (ns.map V.int) (some (m : Int)) (some (k : Int)) = ((ns.drop (min m ns.length)).take (min k ns.length - min m ns.length)).map V.int := by
  unfold cutV
  rw [HT.sIx_nat, HT.sIx_nat, List.length_map, List.map_take, List.map_drop]
theorem set_ints {cs : List Int} {j : Nat} {z : Int} : (cs.map V.int).set j (.int z) = (cs.set j z).map V.int := by
  rw [List.map_set]
theorem ok_L_folded {f : Addr} {fd : FuncData} (F : Fun K "_law_folded" "_law_folded" sL_folded f fd) (E : Bi mg) :
    FnG P w K mg base CX0 1 f fd ["_law_script", "_law_size_here"] (spFold K) := by
  refine okG0 (k := 0) F scL_folded (fun vs H Q E h => ?_) (fun cdv A outer s H vs Q E' hB hr h => ?_)
  · obtain ⟨a, ns, m, rfl, _⟩ := h
    rfl
  · obtain ⟨a, ns, m, rfl, hS, hl, m0, m1, q⟩ := h
    refine ⟨_, (pss_cons (ps_set (i := 2) scL_folded.nd rfl (Or.inl rfl) (pe_callTy call_list_of (by rfl) E.b_list (by decide +kernel) (pa_cons (pe_slice sl_list (pv 0) po_none (po_some (pv 1))) pa_nil)))
      (pss_cons (ps_for PassesOwn.never rfl (pi_enum (by rfl) E.b_enumerate (pa_cons (pe_slice sl_list (pv 0) (po_some (pv 1)) (po_some pe_int)) pa_nil)) (pg_tup rfl (pgs_cons (pg_name (i := 3) scL_folded.nd rfl (Or.inl rfl)) (pgs_cons (pg_name (i := 4) scL_folded.nd rfl (Or.inl rfl)) pgs_nil)))
        (pss_one (ps_asg (pe_op op_add (pe_ix ix_list (pv 2) (pe_op op_mod (pv 3) (pv 1)) (fun _ _ => rfl)) (pe_op op_mul (pv 4) (pe_op op_add (pv 3) pe_int))) (pg_sub (pv 2) (pe_op op_mod (pv 3) (pv 1)) set_list))))
      (pss_one (ps_ret (pv 2))))), ?_⟩
    refine ⟨.ref a, rfl, .int m, rfl, m, rfl, a, _, rfl, hS, fun p1 n1 => ⟨p1, _, rfl, .inl (.inl (.inl upd_same)), fun l nl => ?_⟩⟩
    have nl0 : H l = none := (same_new n1).free nl
    have s1 := (same_new (o := .lst (cutV (ns.map V.int) none (some (m : Int)))) n1).trans (same_new (o := .lst (cutV (ns.map V.int) none (some (m : Int)))) nl)
    refine ⟨.ref a, rfl, .int m, rfl, m, rfl, 63, rfl, a, _, rfl, s1.seq hS, fun e ne => ?_⟩
    have nle : l ≠ e := ne_of_none upd_same ne
    have s2 := s1.trans (same_new (o := .lst (cutV (ns.map V.int) (some (m : Int)) (some 63))) ne)
    rw [show (63 : Int) = ((63 : Nat) : Int) from rfl, cut_tail, cut_head] at *
    refine ⟨e, _, rfl, .inl (.inl upd_same), ?_⟩
    let zs := (ns.drop (min m ns.length)).take (min 63 ns.length - min m ns.length)
    have lz : zs.length = ns.length - min m ns.length := by
      show ((ns.drop (min m ns.length)).take (min 63 ns.length - min m ns.length)).length = _
      rw [List.length_take, List.length_drop]
      omega
    have lt : (ns.take (min m ns.length)).length = min m ns.length := by
      rw [List.length_take]
      omega
    refine ⟨fun i r σ H' => ∃ y3 y4, ∃ cs : List Int, σ = [some (.ref a), some (.int m), some (.ref l), y3, y4] ∧ i + r = zs.length ∧ Same H H' ∧ H' e = some (.lst (zs.map V.int)) ∧ H' l = some (.lst (cs.map V.int)) ∧ cs.length = min m ns.length,
      ⟨zs.length, none, none, _, rfl, by omega, s2, upd_same, by rw [upd_ne nle, upd_same], lt⟩, ?_⟩
    rintro i r σ H' ⟨y3, y4, cs, rfl, er, sm, ee, el, lc⟩
    have he : SqL K H' e (zs.map V.int) := .inl (.inl ee)
    by_cases hi : i < zs.length
    · have g : (zs.map V.int)[i]? = some (.int zs[i]) := by
        rw [List.getElem?_map, List.getElem?_eq_getElem hi]
        rfl
      refine .inr ⟨⟨_, _, he, g⟩, fun σ' H2 => ∃ y3 y4, ∃ cs : List Int, σ' = [some (.ref a), some (.int m), some (.ref l), y3, y4] ∧ Same H H2 ∧ H2 e = some (.lst (zs.map V.int)) ∧ H2 l = some (.lst (cs.map V.int)) ∧ cs.length = min m ns.length, ?_, ?_⟩
      · rintro σ' H2 ⟨z3, z4, ds, e1, e2, e3, e4, e5⟩
        exact ⟨r - 1, by omega, z3, z4, ds, e1, by omega, e2, e3, e4, e5⟩
      · rintro x H2 ⟨T, v, rfl, nT, rfl, fv⟩
        have ev : v = .int zs[i] := Option.some.inj ((fv _ he).symm.trans g)
        subst ev
        have hj : i % m < cs.length := by
          have : i % m < m := Nat.mod_lt _ (by omega)
          omega
        have gj : (cs.map V.int)[i % m]? = some (.int cs[i % m]) := by
          rw [List.getElem?_map, List.getElem?_eq_getElem hj]
          rfl
        have elT : (upd H' T (.tup [.int (i : Nat), .int zs[i]])) l = some (.lst (cs.map V.int)) := by
          rw [upd_ne (ne_of_none el nT)]
          exact el
        have em : (i : Int) % (m : Int) = ((i % m : Nat) : Int) := rfl
        have hix : ixN (cs.map V.int).length ((i : Int) % (m : Int)) = some (i % m) := by
          unfold ixN
          rw [em, if_pos (by omega), if_pos (by rw [List.length_map]; omega), Int.toNat_natCast]
        refine ⟨T, _, rfl, .inl (.inl upd_same), rfl, _, _, rfl, _, _, rfl, rfl, ?_⟩
        refine ⟨.ref l, rfl, .int i, rfl, .int m, rfl, _, _, rfl, rfl, (by show (0 : Int) < m; omega), l, _, _, _, rfl, rfl, .inl (.inl elT), atI_nat gj, ?_⟩
        refine ⟨_, rfl, _, rfl, _, _, rfl, rfl, _, _, rfl, rfl, cmul_r (by omega) (by omega), _, _, rfl, rfl, ?_⟩
        refine ⟨.ref l, rfl, .int i, rfl, .int m, rfl, _, _, rfl, rfl, (by show (0 : Int) < m; omega), l, _, _, i % m, rfl, rfl, elT, hix, ?_⟩
        refine ⟨_, _, cs.set (i % m) (cs[i % m] + zs[i] * ((i : Int) + 2)), rfl, fun b o eb => ?_, ?_, ?_, ?_⟩
        · rw [upd_ne (ne_of_none eb nl0), upd_ne (ne_of_none (sm b o eb) nT)]
          exact sm b o eb
        · rw [upd_ne nle.symm, upd_ne (ne_of_none ee nT)]
          exact ee
        · rw [upd_same]
          rw [List.map_set]
        · rw [List.length_set]
          exact lc
    · refine .inl ⟨⟨_, he, by rw [List.length_map]; omega⟩, ?_⟩
      exact ⟨.ref l, rfl, q l cs H' nl0 sm el lc⟩
theorem pick {xs : List V} {r : Int} (h0 : 0 ≤ r) (h1 : r < xs.length) : ∃ v, atI xs r = some v ∧ v ∈ xs := by
  have h : r.toNat < xs.length := by omega
  exact ⟨xs[r.toNat], at_of (j := r.toNat) (by omega) (List.getElem?_eq_getElem h), List.getElem_mem h⟩
abbrev sL_size : Stmt := topS 18
abbrev NL_size : List Str := ["_law_box_here", "_law_way", "_law_sign", "_law_found", "_law_turn", "_law_by", "_law_most"]
theorem scL_size : FnScope ["_law_box_here", "_law_way", "_law_sign", "_law_found", "_law_turn", "_law_by", "_law_most"] ["_law_box_here"] (defScope sL_size) := ⟨rfl, rfl, rfl, by decide +kernel, rfl, by decide +kernel, by decide +kernel⟩

def spSize : Sp := fun vs H Q _ => ∃ (b : Addr) (n : Int), vs = [.ref b] ∧ Box H b n ∧ n < 2 ^ 39 ∧
  ∀ r H', -(10 ^ 13) < r → r < 10 ^ 13 → Box H' b (n + 20) → Keep b H H' → Q (.int r) H'
theorem small4 {v : V} (h : v ∈ [V.int 2, .int 3, .int 5, .int 7]) : ∃ k, v = .int k ∧ 2 ≤ k ∧ k ≤ 7 := by
  simp only [List.mem_cons, List.not_mem_nil, or_false] at h
  rcases h with rfl | rfl | rfl | rfl <;> exact ⟨_, rfl, by decide, by decide⟩
theorem small5 {v : V} (h : v ∈ [V.int 2, .int 13, .int 1000, .int (10 ^ Int.toNat 6), .int (10 ^ Int.toNat 12 + 1)]) : ∃ k, v = .int k ∧ 2 ≤ k ∧ k ≤ 10 ^ 12 + 1 := by
  simp only [List.mem_cons, List.not_mem_nil, or_false] at h
  rcases h with rfl | rfl | rfl | rfl | rfl <;> exact ⟨_, rfl, by decide, by decide⟩
theorem sign_mul {s x : Int} (h : s = 1 ∨ s = -1) (h1 : -(10 ^ 13) < x) (h2 : x < 10 ^ 13) : -(10 ^ 13) < s * x ∧ s * x < 10 ^ 13 := by
  rcases h with rfl | rfl
  · omega
  · omega
theorem ok_L_size {f : Addr} {fd : FuncData} (F : Fun K "_law_size" "_law_size" sL_size f fd) (E : Bi mg)
    (d_L_take : Def P w K mg base CX0 1 "_law_take" ["_law_box_here", "_law_size_here"] spTake) :
    FnG P w K mg base CX0 2 f fd ["_law_box_here"] spSize := by
  refine okG0 (k := 1) F scL_size (fun vs H Q E h => ?_) (fun cdv A outer s H vs Q E' hB hr h => ?_)
  · obtain ⟨b, n, rfl, _⟩ := h
    rfl
  · obtain ⟨b, n, rfl, hb, n1, q⟩ := h
    refine ⟨_, (pss_cons (ps_par3 (i := 1) (j := 2) (l := 3) (by rfl) scL_size.nd rfl rfl rfl (by decide) (by decide) (by decide) rfl rfl rfl (pa_cons (Ms.pcall d_L_take hB (hr.mono (by first | decide | omega)) (by rfl) pass0 (pa_cons (pv 0) (pa_cons pe_int pa_nil))) (pa_cons (pe_op op_sub pe_int (pe_op op_mul pe_int (Ms.pcall d_L_take hB (hr.mono (by first | decide | omega)) (by rfl) pass0 (pa_cons (pv 0) (pa_cons pe_int pa_nil))))) (pa_cons pe_int pa_nil))) (by rfl))
      (pss_cons (ps_if (pt_cmpR op_eq (pv 1) pe_int (nomark _)) (pss_cons (ps_for PassesOwn.never rfl (pi_range1 (by rfl) E.b_range (pa_cons (Ms.pcall d_L_take hB (hr.mono (by first | decide | omega)) (by rfl) pass0 (pa_cons (pv 0) (pa_cons pe_int pa_nil))) pa_nil)) (pg_name (i := 4) scL_size.nd rfl (Or.inl rfl))
          (pss_cons (ps_set (i := 5) scL_size.nd rfl (Or.inl rfl) (pe_ix ix_list (pe_lst (pa_cons pe_int (pa_cons pe_int (pa_cons pe_int (pa_cons pe_int pa_nil))))) (Ms.pcall d_L_take hB (hr.mono (by first | decide | omega)) (by rfl) pass0 (pa_cons (pv 0) (pa_cons pe_int pa_nil))) (fun _ _ => rfl)))
          (pss_one (ps_set (i := 3) scL_size.nd rfl (Or.inl rfl) (pe_ifExp (pt_cmpR op_le (pe_op op_mul (pv 3) (pv 5)) (pe_op op_pow pe_int pe_int) (nomark _)) (pe_op op_mul (pv 3) (pv 5)) (pv 3))))))
        (pss_one (ps_ret (pe_op op_mul (pv 2) (pv 3))))) pss_nil)
      (pss_cons (ps_set (i := 6) scL_size.nd rfl (Or.inl rfl) (pe_ix ix_list (pe_lst (pa_cons pe_int (pa_cons pe_int (pa_cons pe_int (pa_cons (pe_op op_pow pe_int pe_int) (pa_cons (pe_op op_add (pe_op op_pow pe_int pe_int) pe_int) pa_nil)))))) (pv 1) (fun _ _ => rfl)))
      (pss_one (ps_ret (pe_op op_mul (pv 2) (pe_ix ix_list (pe_lst (pa_cons (Ms.pcall d_L_take hB (hr.mono (by first | decide | omega)) (by rfl) pass0 (pa_cons (pv 0) (pa_cons (pv 6) pa_nil))) (pa_cons (pe_op op_sub (pv 6) pe_int) pa_nil))) (pe_callTy call_int1 (by rfl) E.b_int (by decide +kernel) (pa_cons (pe_cmpR op_eq (Ms.pcall d_L_take hB (hr.mono (by first | decide | omega)) (by rfl) pass0 (pa_cons (pv 0) (pa_cons pe_int pa_nil))) pe_int (nomark _)) pa_nil)) (fun _ _ => rfl)))))))), ?_⟩
    refine ⟨.ref b, rfl, b, n, 6, rfl, hb, by omega, by decide, by decide, fun r1 H1 a1 b1 hb1 k1 => ?_⟩
    refine ⟨.ref b, rfl, b, _, 2, rfl, hb1, by omega, by decide, by decide, fun r2 H2 a2 b2 hb2 k2 => ?_⟩
    refine ⟨_, _, rfl, rfl, cmul_l (by decide) (by decide), _, _, rfl, rfl, _, _, _, rfl, ?_⟩
    have k02 := k1.trans k2
    have hs : (1 - 2 * r2) = 1 ∨ (1 - 2 * r2) = -1 := by omega
    refine ⟨.int r1, rfl, rfl, _, rfl, ite2 (fun c => ?_) (fun c => ?_)⟩
    · refine ⟨.ref b, rfl, b, _, 12, rfl, hb2, by omega, by decide, by decide, fun r3 H3 a3 b3 hb3 k3 => ?_⟩
      refine ⟨r3, rfl, by omega, by omega, ?_⟩
      refine for_range (lo := 0) (n := r3.toNat) (fun i σ H' => ∃ f y4 y5 y6, σ = [some (.ref b), some (.int r1), some (.int (1 - 2 * r2)), some (.int f), y4, y5, y6] ∧ 1 ≤ f ∧ f ≤ 10 ^ 12 ∧ Box H' b (n + 3 + i) ∧ Keep b H H')
        ⟨1, none, none, none, rfl, by decide, by decide, hb3.more (by omega), k02.trans k3⟩ ?_ ?_
      · rintro i σ H' hi ⟨f, y4, y5, y6, rfl, f0, f1, hbi, ki⟩
        refine ⟨(show 4 ≤ sizeLine by decide), fun p np => ?_⟩
        refine ⟨.ref b, rfl, b, _, 4, rfl, hbi.new np, by omega, by decide, by decide, fun r4 H4 a4 b4 hb4 k4 => ?_⟩
        obtain ⟨v, hv, mv⟩ := pick (xs := [V.int 2, .int 3, .int 5, .int 7]) a4 b4
        obtain ⟨k, rfl, v0, v1⟩ := small4 mv
        refine ⟨p, _, r4, .int k, rfl, rfl, .inl (.inl (k4.get (hbi.ne np) upd_same)), hv, ?_⟩
        have kk := (ki.trans (Keep.new np)).trans k4
        refine ⟨.int f, rfl, .int k, rfl, f, k, rfl, rfl, cmul_l (by omega) (by omega), _, _, rfl, rfl, ⟨by decide, by decide, by decide⟩, _, _, rfl, rfl, _, rfl, ite2 (fun c2 => ?_) (fun c2 => ?_)⟩
        · have g : f * k ≤ 10 ^ 12 := of_decide_eq_true c2
          refine ⟨.int f, rfl, .int k, rfl, f, k, rfl, rfl, cmul_l (by omega) (by omega), f * k, _, _, _, rfl, ?_, g, hb4.more (by omega), kk⟩
          have : 1 * 1 ≤ f * k := Int.mul_le_mul f0 (by omega) (by decide) (by omega)
          omega
        · exact ⟨.int f, rfl, f, _, _, _, rfl, f0, f1, hb4.more (by omega), kk⟩
      · rintro σ H' ⟨f, y4, y5, y6, rfl, f0, f1, hbi, ki⟩
        refine ⟨_, rfl, _, rfl, _, _, rfl, rfl, cmul_l (by omega) (by omega), ?_⟩
        obtain ⟨g1, g2⟩ := sign_mul hs (x := f) (by omega) (by omega)
        exact q _ H' g1 g2 (hbi.more (by omega)) ki
    · have hr5 : r1 < 5 := by
        by_cases z : r1 = 5
        · exact absurd (decide_eq_true (congrArg V.int z)) c
        · omega
      refine ⟨_, _, rfl, rfl, ⟨by decide, by decide, by decide⟩, _, _, rfl, rfl, ⟨by decide, by decide, by decide⟩, _, _, rfl, rfl, (show 5 ≤ sizeLine by decide), fun p np => ?_⟩
      obtain ⟨v, hv, mv⟩ := pick (xs := [V.int 2, .int 13, .int 1000, .int (10 ^ Int.toNat 6), .int (10 ^ Int.toNat 12 + 1)]) a1 hr5
      obtain ⟨M, rfl, v0, v1⟩ := small5 mv
      refine ⟨.int r1, rfl, p, _, r1, .int M, rfl, rfl, .inl (.inl upd_same), hv, ?_⟩
      refine ⟨_, rfl, .ref b, rfl, .int M, rfl, b, _, M, rfl, hb2.new np, by omega, by omega, by omega, fun r3 H3 a3 b3 hb3 k3 => ?_⟩
      refine ⟨.int M, rfl, _, _, rfl, rfl, (show 2 ≤ sizeLine by decide), fun p2 np2 => ?_⟩
      refine ⟨.ref b, rfl, b, _, 8, rfl, hb3.new np2, by omega, by decide, by decide, fun r4 H4 a4 b4 hb4 k4 => ?_⟩
      refine ⟨rfl, .inr ⟨_, rfl, ?_⟩⟩
      have z2 : ∀ k : Bool, ∃ v, atI [V.int r3, V.int (M - 1)] (if k = true then 1 else 0) = some v ∧ v ∈ [V.int r3, V.int (M - 1)] := fun k => by
        cases k
        · exact ⟨_, rfl, List.mem_cons_self⟩
        · exact ⟨_, rfl, List.mem_cons_of_mem _ List.mem_cons_self⟩
      obtain ⟨v, hv2, mv2⟩ := z2 (decide (V.int r4 = V.int 0))
      have hv3 : ∃ k, v = .int k ∧ 0 ≤ k ∧ k ≤ M := by
        simp only [List.mem_cons, List.not_mem_nil, or_false] at mv2
        rcases mv2 with rfl | rfl
        · exact ⟨_, rfl, a3, by omega⟩
        · exact ⟨_, rfl, by omega, by omega⟩
      obtain ⟨k, rfl, w0, w1⟩ := hv3
      refine ⟨p2, _, _, .int k, rfl, rfl, .inl (.inl (k4.get (hb3.ne np2) upd_same)), hv2, _, _, rfl, rfl, cmul_l (by omega) (by omega), ?_⟩
      obtain ⟨g1, g2⟩ := sign_mul hs (x := k) (by omega) (by omega)
      exact q _ H4 g1 g2 (hb4.more (by omega)) ((((k02.trans (Keep.new np)).trans k3).trans (Keep.new np2)).trans k4)
/-! ### made -/
abbrev smade : Stmt := topS 6
abbrev Nmade : List Str := ["top", "below", "divisor"]
theorem scmade : FnScope ["top", "below", "divisor"] ["top", "below"] (defScope smade) := ⟨rfl, rfl, rfl, by decide +kernel, rfl, by decide +kernel, by decide +kernel⟩

def spMade : Sp := fun vs H Q _ => ∃ (t b : Int) (n : Nat), vs = [.int t, .int b] ∧ b ≠ 0 ∧ b.natAbs < 2 ^ n ∧ n ≤ 8000 ∧
  ∀ p, H p = none → Q (.ref p) (upd H p (.tup (frV (Rat.divInt t b))))
theorem dvs_lt {t b : Int} {n : Nat} (h : b ≠ 0) (hb : b.natAbs < 2 ^ n) : (dvs t b).natAbs < 2 ^ n := by
  refine Nat.lt_of_le_of_lt ?_ hb
  have := Nat.gcd_le_right (m := t.natAbs) (n := b.natAbs) (by omega)
  unfold dvs
  split <;> omega
theorem ok_made {f : Addr} {fd : FuncData} (F : Fun K "made" "made" smade f fd) (E : Bi mg)
    (d_common_divisor : Def P w K mg base CX0 1 "common_divisor" ["one", "other"] spGcd) :
    FnG P w K mg base CX0 2 f fd ["top", "below"] spMade := by
  refine okG0 (k := 1) F scmade (fun vs H Q E h => ?_) (fun cdv A outer s H vs Q E' hB hr h => ?_)
  · obtain ⟨t, b, n, rfl, _⟩ := h
    rfl
  · obtain ⟨t, b, n, rfl, hb, hlt, hn, q⟩ := h
    refine ⟨_, (pss_cons (ps_set (i := 2) scmade.nd rfl (Or.inl rfl) (Ms.pcall d_common_divisor hB (hr.mono (by first | decide | omega)) (by rfl) pass0 (pa_cons (pe_callB call_abs (by rfl) E.b_abs (by decide +kernel) (pa_cons (pv 0) pa_nil)) (pa_cons (pe_callB call_abs (by rfl) E.b_abs (by decide +kernel) (pa_cons (pv 1) pa_nil)) pa_nil))))
      (Ms.pss_mid (ps_if (pt_cmpR op_lt (pv 1) pe_int (nomark _)) (pss_one (ps_set (i := 2) scmade.nd rfl (Or.inl rfl) (pe_un un_neg (pv 2)))) pss_nil)
      (pss_one (ps_ret (pe_tup (pa_cons (pe_op Ms.op_fdivZ (pv 0) (pv 2)) (pa_cons (pe_op Ms.op_fdivZ (pv 1) (pv 2)) pa_nil))))))), ?_⟩
    refine ⟨.int t, rfl, t, rfl, .int b, rfl, b, rfl, t.natAbs, b.natAbs, ?_, ?_⟩
    · rw [abs_if, abs_if]
      rfl
    refine ⟨fun σ H' => σ = [some (.int t), some (.int b), some (.int (dvs t b))] ∧ H' = H, ?_, ?_⟩
    · refine ⟨.int b, rfl, b, 0, rfl, rfl, _, rfl, ite2 (fun c => ?_) (fun c => ?_)⟩
      · refine ⟨_, rfl, _, rfl, ?_⟩
        have e : dvs t b = -(Nat.gcd t.natAbs b.natAbs : Int) := by
          unfold dvs
          rw [if_pos (of_decide_eq_true c)]
        rw [e]
        exact ⟨rfl, rfl⟩
      · have e : dvs t b = (Nat.gcd t.natAbs b.natAbs : Int) := by
          unfold dvs
          rw [if_neg (fun z => c (decide_eq_true z))]
        rw [e]
        exact ⟨rfl, rfl⟩
    · rintro σ H' ⟨rfl, rfl⟩
      have hz := dvs_ne (t := t) hb
      have hl := dvs_lt (t := t) hb hlt
      refine ⟨_, rfl, _, rfl, _, _, rfl, rfl, cdivz hz hl (by omega), _, rfl, _, rfl, _, _, rfl, rfl, cdivz hz hl (by omega), (show 2 ≤ sizeLine by decide), fun p np => ?_⟩
      have z := q p np
      rw [show frV (Rat.divInt t b) = [.int (t.fdiv (dvs t b)), .int (b.fdiv (dvs t b))] by rw [made_num hb, made_den hb]] at z
      exact z
theorem den_mul_ne (a b : Rat) : (a.den : Int) * (b.den : Int) ≠ 0 := Int.ne_of_gt (Int.mul_pos (den_pos' a) (den_pos' b))
/-! ### plus -/
abbrev splus : Stmt := topS 7
abbrev Nplus : List Str := ["one", "other"]
theorem scplus : FnScope ["one", "other"] ["one", "other"] (defScope splus) := ⟨rfl, rfl, rfl, by decide +kernel, rfl, by decide +kernel, by decide +kernel⟩

def sp_plus (K : PySem.W.Frag) : Sp := fun vs H Q _ => ∃ (v u : V) (q r : Rat) (n m : Nat), vs = [v, u] ∧ Fr K H v q ∧ Fr K H u r ∧ Bd q n ∧ Bd r m ∧ n + m ≤ 7000 ∧
  ∀ p, H p = none → Q (.ref p) (upd H p (.tup (frV (q + r))))
theorem ok_plus {f : Addr} {fd : FuncData} (F : Fun K "plus" "plus" splus f fd)
    (d_made : Def P w K mg base CX0 2 "made" ["top", "below"] spMade) :
    FnG P w K mg base CX0 3 f fd ["one", "other"] (sp_plus K) := by
  refine okG0 (k := 2) F scplus (fun vs H Q E h => ?_) (fun cdv A outer s H vs Q E' hB hr h => ?_)
  · obtain ⟨v, u, q, r, n, m, rfl, _⟩ := h
    rfl
  · obtain ⟨v, u, q, r, n, m, rfl, ⟨a, rfl, ha⟩, ⟨c, rfl, hc⟩, bq, br, hn, k⟩ := h
    refine ⟨_, (pss_one (ps_ret (Ms.pcall d_made hB (hr.mono (by first | decide | omega)) (by rfl) pass0 (pa_cons (pe_op op_add (pe_op op_mulX (pe_ix Ms.ix_pr (pv 0) pe_int (fun _ _ => rfl)) (pe_ix Ms.ix_pr (pv 1) pe_int (fun _ _ => rfl))) (pe_op op_mulX (pe_ix Ms.ix_pr (pv 1) pe_int (fun _ _ => rfl)) (pe_ix Ms.ix_pr (pv 0) pe_int (fun _ _ => rfl)))) (pa_cons (pe_op op_mulX (pe_ix Ms.ix_pr (pv 0) pe_int (fun _ _ => rfl)) (pe_ix Ms.ix_pr (pv 1) pe_int (fun _ _ => rfl))) pa_nil))))), ?_⟩
    have q1 := nat_lt_pow' bq.bel
    have r1 := nat_lt_pow' br.bel
    refine ⟨.ref a, rfl, a, _, 0, _, rfl, rfl, ha, rfl, .ref c, rfl, c, _, 1, _, rfl, rfl, hc, rfl, _, _, rfl, rfl, mulx bq.top r1 (by omega), ?_⟩
    refine ⟨.ref c, rfl, c, _, 0, _, rfl, rfl, hc, rfl, .ref a, rfl, a, _, 1, _, rfl, rfl, ha, rfl, _, _, rfl, rfl, mulx br.top q1 (by omega), _, _, rfl, rfl, ?_⟩
    refine ⟨.ref a, rfl, a, _, 1, _, rfl, rfl, ha, rfl, .ref c, rfl, c, _, 1, _, rfl, rfl, hc, rfl, _, _, rfl, rfl, mulx q1 r1 (by omega), ?_⟩
    refine ⟨_, _, n + m, rfl, den_mul_ne q r, mul_lt q1 r1, by omega, fun p np => ?_⟩
    rw [plus_rat]
    exact k p np
/-! ### times -/
abbrev stimes : Stmt := topS 8
abbrev Ntimes : List Str := ["one", "other"]
theorem sctimes : FnScope ["one", "other"] ["one", "other"] (defScope stimes) := ⟨rfl, rfl, rfl, by decide +kernel, rfl, by decide +kernel, by decide +kernel⟩

def sp_times (K : PySem.W.Frag) : Sp := fun vs H Q _ => ∃ (v u : V) (q r : Rat) (n m : Nat), vs = [v, u] ∧ Fr K H v q ∧ Fr K H u r ∧ Bd q n ∧ Bd r m ∧ n + m ≤ 7000 ∧
  ∀ p, H p = none → Q (.ref p) (upd H p (.tup (frV (q * r))))
theorem ok_times {f : Addr} {fd : FuncData} (F : Fun K "times" "times" stimes f fd)
    (d_made : Def P w K mg base CX0 2 "made" ["top", "below"] spMade) :
    FnG P w K mg base CX0 3 f fd ["one", "other"] (sp_times K) := by
  refine okG0 (k := 2) F sctimes (fun vs H Q E h => ?_) (fun cdv A outer s H vs Q E' hB hr h => ?_)
  · obtain ⟨v, u, q, r, n, m, rfl, _⟩ := h
    rfl
  · obtain ⟨v, u, q, r, n, m, rfl, ⟨a, rfl, ha⟩, ⟨c, rfl, hc⟩, bq, br, hn, k⟩ := h
    refine ⟨_, (pss_one (ps_ret (Ms.pcall d_made hB (hr.mono (by first | decide | omega)) (by rfl) pass0 (pa_cons (pe_op op_mulX (pe_ix Ms.ix_pr (pv 0) pe_int (fun _ _ => rfl)) (pe_ix Ms.ix_pr (pv 1) pe_int (fun _ _ => rfl))) (pa_cons (pe_op op_mulX (pe_ix Ms.ix_pr (pv 0) pe_int (fun _ _ => rfl)) (pe_ix Ms.ix_pr (pv 1) pe_int (fun _ _ => rfl))) pa_nil))))), ?_⟩
    have q1 := nat_lt_pow' bq.bel
    have r1 := nat_lt_pow' br.bel
    refine ⟨.ref a, rfl, a, _, 0, _, rfl, rfl, ha, rfl, .ref c, rfl, c, _, 0, _, rfl, rfl, hc, rfl, _, _, rfl, rfl, mulx bq.top br.top (by omega), ?_⟩
    refine ⟨.ref a, rfl, a, _, 1, _, rfl, rfl, ha, rfl, .ref c, rfl, c, _, 1, _, rfl, rfl, hc, rfl, _, _, rfl, rfl, mulx q1 r1 (by omega), ?_⟩
    refine ⟨_, _, n + m, rfl, den_mul_ne q r, mul_lt q1 r1, by omega, fun p np => ?_⟩
    rw [times_rat]
    exact k p np
/-! ### is_under, rounded_up -/
abbrev sis_under : Stmt := topS 9
abbrev Nis_under : List Str := ["one", "other"]
theorem scis_under : FnScope ["one", "other"] ["one", "other"] (defScope sis_under) := ⟨rfl, rfl, rfl, by decide +kernel, rfl, by decide +kernel, by decide +kernel⟩

def spUnder (K : PySem.W.Frag) : Sp := fun vs H Q _ => ∃ (v u : V) (q r : Rat) (n m : Nat), vs = [v, u] ∧ Fr K H v q ∧ Fr K H u r ∧ Bd q n ∧ Bd r m ∧ n + m ≤ 100000 ∧
  Q (.bl (decide (q.num * (r.den : Int) < r.num * (q.den : Int)))) H
theorem ok_is_under {f : Addr} {fd : FuncData} (F : Fun K "is_under" "is_under" sis_under f fd) :
    FnG P w K mg base CX0 1 f fd ["one", "other"] (spUnder K) := by
  refine okG0 (k := 0) F scis_under (fun vs H Q E h => ?_) (fun cdv A outer s H vs Q E' hB hr h => ?_)
  · obtain ⟨v, u, q, r, n, m, rfl, _⟩ := h
    rfl
  · obtain ⟨v, u, q, r, n, m, rfl, ⟨a, rfl, ha⟩, ⟨c, rfl, hc⟩, bq, br, hn, k⟩ := h
    refine ⟨_, (pss_one (ps_ret (pe_cmpR op_lt (pe_op op_mulX (pe_ix Ms.ix_pr (pv 0) pe_int (fun _ _ => rfl)) (pe_ix Ms.ix_pr (pv 1) pe_int (fun _ _ => rfl))) (pe_op op_mulX (pe_ix Ms.ix_pr (pv 1) pe_int (fun _ _ => rfl)) (pe_ix Ms.ix_pr (pv 0) pe_int (fun _ _ => rfl))) (nomark _)))), ?_⟩
    have q1 := nat_lt_pow' bq.bel
    have r1 := nat_lt_pow' br.bel
    refine ⟨.ref a, rfl, a, _, 0, _, rfl, rfl, ha, rfl, .ref c, rfl, c, _, 1, _, rfl, rfl, hc, rfl, _, _, rfl, rfl, mulx bq.top r1 (by omega), ?_⟩
    refine ⟨.ref c, rfl, c, _, 0, _, rfl, rfl, hc, rfl, .ref a, rfl, a, _, 1, _, rfl, rfl, ha, rfl, _, _, rfl, rfl, mulx br.top q1 (by omega), _, _, rfl, rfl, k⟩
abbrev srounded_up : Stmt := topS 10
abbrev Nrounded_up : List Str := ["one"]
theorem scrounded_up : FnScope ["one"] ["one"] (defScope srounded_up) := ⟨rfl, rfl, rfl, by decide +kernel, rfl, by decide +kernel, by decide +kernel⟩

def upTo (q : Rat) : Int := -((-q.num).fdiv (q.den : Int))
def spUp (K : PySem.W.Frag) : Sp := fun vs H Q _ => ∃ (v : V) (q : Rat) (n : Nat), vs = [v] ∧ Fr K H v q ∧ Bd q n ∧ n ≤ 8000 ∧ Q (.int (upTo q)) H
theorem ok_rounded_up {f : Addr} {fd : FuncData} (F : Fun K "rounded_up" "rounded_up" srounded_up f fd) :
    FnG P w K mg base CX0 1 f fd ["one"] (spUp K) := by
  refine okG0 (k := 0) F scrounded_up (fun vs H Q E h => ?_) (fun cdv A outer s H vs Q E' hB hr h => ?_)
  · obtain ⟨v, q, n, rfl, _⟩ := h
    rfl
  · obtain ⟨v, q, n, rfl, ⟨a, rfl, ha⟩, bq, hn, k⟩ := h
    refine ⟨_, (pss_one (ps_ret (pe_un un_neg (pe_op Ms.op_fdivZ (pe_un un_neg (pe_ix Ms.ix_pr (pv 0) pe_int (fun _ _ => rfl))) (pe_ix Ms.ix_pr (pv 0) pe_int (fun _ _ => rfl)))))), ?_⟩
    have q0 := den_pos' q
    exact ⟨.ref a, rfl, a, _, 0, _, rfl, rfl, ha, rfl, _, rfl, .ref a, rfl, a, _, 1, _, rfl, rfl, ha, rfl, _, _, rfl, rfl, cdivz (by omega) (nat_lt_pow' bq.bel) (by omega), _, rfl, k⟩
theorem up_lo (q : Rat) : (upTo q - 1) * (q.den : Int) < q.num := by
  have h := den_pos' q
  have e := Int.fdiv_eq_ediv_of_nonneg (-q.num) (b := (q.den : Int)) (by omega)
  have e2 := Int.mul_ediv_add_emod (-q.num) (q.den : Int)
  have e3 := Int.emod_nonneg (-q.num) (b := (q.den : Int)) (by omega)
  have e4 := Int.emod_lt_of_pos (-q.num) h
  unfold upTo
  rw [e, Int.sub_mul, Int.neg_mul, Int.one_mul]
  rw [Int.mul_comm] at e2
  omega
theorem up_hi (q : Rat) : q.num ≤ upTo q * (q.den : Int) := by
  have h := den_pos' q
  have e := Int.fdiv_eq_ediv_of_nonneg (-q.num) (b := (q.den : Int)) (by omega)
  have e2 := Int.mul_ediv_add_emod (-q.num) (q.den : Int)
  have e3 := Int.emod_nonneg (-q.num) (b := (q.den : Int)) (by omega)
  unfold upTo
  rw [e, Int.neg_mul]
  rw [Int.mul_comm] at e2
  omega
/-! ### the law -/
abbrev sL_right : Stmt := topS 19
abbrev NL_right : List Str := ["_law_box_here", "_law_told", "_law_turn", "_law_below", "_law_found", "_law_few", "_law_many", "_law_top", "_law_one", "_law_other", "_law_under"]
theorem scL_right : FnScope ["_law_box_here", "_law_told", "_law_turn", "_law_below", "_law_found", "_law_few", "_law_many", "_law_top", "_law_one", "_law_other", "_law_under"] ["_law_box_here"] (defScope sL_right) := ⟨rfl, rfl, rfl, by decide +kernel, rfl, by decide +kernel, by decide +kernel⟩

def spRight : Sp := fun vs H Q _ => ∃ b : Addr, vs = [.ref b] ∧ Box H b 0 ∧ ∀ H', Keep b H H' → Q (.bl true) H'
theorem few5 {v : V} (h : v ∈ [V.int 2, .int 3, .int 10, .int (-1), .int (-6)]) : ∃ k, v = .int k ∧ k ≠ 0 ∧ -10 ≤ k ∧ k ≤ 10 := by
  simp only [List.mem_cons, List.not_mem_nil, or_false] at h
  rcases h with rfl | rfl | rfl | rfl | rfl <;> exact ⟨_, rfl, by decide, by decide, by decide⟩
theorem two_of {v x y : V} (h : v ∈ [x, y]) : v = x ∨ v = y := by
  simpa using h
theorem up_le {q : Rat} {n : Nat} (h : Bd q n) : (upTo q).natAbs < 2 ^ (n + 1) ∧ (upTo q - 1).natAbs < 2 ^ (n + 1) := by
  have d := den_pos' q
  have t := h.top
  have e1 : (2 : Nat) ^ (n + 1) = 2 ^ n * 2 := Nat.pow_succ ..
  have p : 0 < (2 : Nat) ^ n := Nat.two_pow_pos n
  have e := Int.fdiv_eq_ediv_of_nonneg (-q.num) (b := (q.den : Int)) (by omega)
  have z := Int.natAbs_ediv_le_natAbs (-q.num) (q.den : Int)
  rw [← e] at z
  have u : upTo q = -((-q.num).fdiv (q.den : Int)) := rfl
  omega
theorem ok_L_right {f : Addr} {fd : FuncData} (F : Fun K "_law_right" "_law_right" sL_right f fd) (E : Bi mg)
    (d_L_take : Def P w K mg base CX0 1 "_law_take" ["_law_box_here", "_law_size_here"] spTake) (d_L_size : Def P w K mg base CX0 2 "_law_size" ["_law_box_here"] spSize)
    (d_made : Def P w K mg base CX0 2 "made" ["top", "below"] spMade) (d_is_fraction : Def P w K mg base CX0 2 "is_fraction" ["thing"] (spFr K))
    (d_L_is_fraction : Def P w K mg base CX0 2 "_law_is_fraction" ["_law_thing"] (spLFr K)) (d_L_is_number : Def P w K mg base CX0 1 "_law_is_number" ["_law_thing"] (spNum K))
    (d_plus : Def P w K mg base CX0 3 "plus" ["one", "other"] (sp_plus K)) (d_times : Def P w K mg base CX0 3 "times" ["one", "other"] (sp_times K))
    (d_is_under : Def P w K mg base CX0 1 "is_under" ["one", "other"] (spUnder K)) (d_rounded_up : Def P w K mg base CX0 1 "rounded_up" ["one"] (spUp K)) :
    FnG P w K mg base CX0 4 f fd ["_law_box_here"] spRight := by
  refine okG0 (k := 3) F scL_right (fun vs H Q E h => ?_) (fun cdv A outer s H vs Q E' hB hr h => ?_)
  · obtain ⟨b, rfl, _⟩ := h
    rfl
  · obtain ⟨b, rfl, hb, q⟩ := h
    refine ⟨_, (pss_cons (ps_set (i := 1) scL_right.nd rfl (Or.inl rfl) (pe_lst pa_nil))
      (pss_cons (ps_for PassesOwn.never rfl (pi_range1 (by rfl) E.b_range (pa_cons pe_int pa_nil)) (pg_name (i := 2) scL_right.nd rfl (Or.inl rfl))
        (pss_cons (ps_par (i := 7) (j := 3) (by rfl) scL_right.nd rfl rfl (by decide) rfl rfl (pa_cons (Ms.pcall d_L_size hB (hr.mono (by first | decide | omega)) (by rfl) pass0 (pa_cons (pv 0) pa_nil)) (pa_cons (Ms.pcall d_L_size hB (hr.mono (by first | decide | omega)) (by rfl) pass0 (pa_cons (pv 0) pa_nil)) pa_nil)) (by rfl))
        (pss_cons (ps_set (i := 3) scL_right.nd rfl (Or.inl rfl) (Ms.pe_mid (pe_ifExp (pt_cmpR op_eq (pv 3) pe_int (nomark _)) pe_int (pv 3))))
        (pss_cons (ps_set (i := 4) scL_right.nd rfl (Or.inl rfl) (Ms.pcall d_made hB (hr.mono (by first | decide | omega)) (by rfl) pass0 (pa_cons (pv 7) (pa_cons (pv 3) pa_nil))))
        (pss_cons (ps_if (PW.pt (pw_or (pt_not (pt_val (Ms.pcall d_L_is_fraction hB (hr.mono (by first | decide | omega)) (by rfl) pass0 (pa_cons (pv 4) pa_nil)))) (pw_or (pt_not (pt_val (Ms.pcall d_is_fraction hB (hr.mono (by first | decide | omega)) (by rfl) pass0 (pa_cons (pv 4) pa_nil)))) (pw_or1 (pt_cmpR op_ne (pe_op op_mulX (pe_ix ix_tup (pv 4) pe_int (fun _ _ => rfl)) (pv 3)) (pe_op op_mulX (pv 7) (pe_ix ix_tup (pv 4) pe_int (fun _ _ => rfl))) (nomark _)))))) (pss_one (ps_ret pe_bl)) pss_nil)
        (pss_cons (ps_set (i := 5) scL_right.nd rfl (Or.inl rfl) (pe_ix ix_list (pe_lst (pa_cons pe_int (pa_cons pe_int (pa_cons pe_int (pa_cons (pe_un un_neg pe_int) (pa_cons (pe_un un_neg pe_int) pa_nil)))))) (Ms.pcall d_L_take hB (hr.mono (by first | decide | omega)) (by rfl) pass0 (pa_cons (pv 0) (pa_cons pe_int pa_nil))) (fun _ _ => rfl)))
        (Ms.pss_mid (ps_if (PW.pt (pw_and (pt_cmpR op_lt (pe_callB (call_max2 rfl) (by rfl) E.b_max (by decide +kernel) (pa_cons (pe_callB call_abs (by rfl) E.b_abs (by decide +kernel) (pa_cons (pv 7) pa_nil)) (pa_cons (pe_callB call_abs (by rfl) E.b_abs (by decide +kernel) (pa_cons (pv 3) pa_nil)) pa_nil))) (pe_op op_pow pe_int pe_int) (nomark _)) (pw_and1 (pt_cmpR (op_neD hr.units) (Ms.pcall d_made hB (hr.mono (by first | decide | omega)) (by rfl) pass0 (pa_cons (pe_op op_mul (pv 7) (pv 5)) (pa_cons (pe_op op_mul (pv 3) (pv 5)) pa_nil))) (pv 4) (nomark _))))) (pss_one (ps_ret pe_bl)) pss_nil)
        (pss_cons (ps_if (pt_cmpR (op_neD hr.units) (Ms.pcall d_made hB (hr.mono (by first | decide | omega)) (by rfl) pass0 (pa_cons (pe_un un_neg (pv 7)) (pa_cons (pe_un un_neg (pv 3)) pa_nil))) (pv 4) (nomark _)) (pss_one (ps_ret pe_bl)) pss_nil)
        (pss_cons (ps_set (i := 6) scL_right.nd rfl (Or.inl rfl) (Ms.pcall d_rounded_up hB (hr.mono (by first | decide | omega)) (by rfl) pass0 (pa_cons (pe_ix ix_list (pe_lst (pa_cons (pv 4) (pa_cons (pe_callTy call_list_of (by rfl) E.b_list (by decide +kernel) (pa_cons (pv 4) pa_nil)) pa_nil))) (Ms.pcall d_L_take hB (hr.mono (by first | decide | omega)) (by rfl) pass0 (pa_cons (pv 0) (pa_cons pe_int pa_nil))) (fun _ _ => rfl)) pa_nil)))
        (pss_cons (ps_if (PW.pt (pw_or (pt_not (pt_val (Ms.pcall d_L_is_number hB (hr.mono (by first | decide | omega)) (by rfl) pass0 (pa_cons (pv 6) pa_nil)))) (pw_or1 (pt_not (pt_chain op_lt op_le (pe_op op_mulX (pe_op op_sub (pv 6) pe_int) (pe_ix ix_tup (pv 4) pe_int (fun _ _ => rfl))) (pe_ix ix_tup (pv 4) pe_int (fun _ _ => rfl)) (pe_op op_mulX (pv 6) (pe_ix ix_tup (pv 4) pe_int (fun _ _ => rfl)))))))) (pss_one (ps_ret pe_bl)) pss_nil)
        (pss_one (ps_expr (pe_bm PySem.F.plainAttrs_list PySem.F.slot_list_append PySem.F.type_list_append mt_append (pv 1) (pa_cons (pv 4) pa_nil))))))))))))))
      (pss_cons (ps_for PassesOwn.never rfl (pi_zip (by rfl) E.b_zip (pa_cons (pe_slice sl_list (pv 1) po_none (po_some pe_int)) (pa_cons (pe_slice sl_list (pv 1) (po_some pe_int) (po_some pe_int)) pa_nil))) (pg_tup rfl (pgs_cons (pg_name (i := 8) scL_right.nd rfl (Or.inl rfl)) (pgs_cons (pg_name (i := 9) scL_right.nd rfl (Or.inl rfl)) pgs_nil)))
        (pss_cons (ps_expr (pe_bm PySem.F.plainAttrs_list PySem.F.slot_list_append PySem.F.type_list_append mt_append (pv 1) (pa_cons (Ms.pcall d_times hB (hr.mono (by first | decide | omega)) (by rfl) pass0 (pa_cons (pv 8) (pa_cons (Ms.pcall d_plus hB (hr.mono (by first | decide | omega)) (by rfl) pass0 (pa_cons (pv 9) (pa_cons (Ms.pcall d_times hB (hr.mono (by first | decide | omega)) (by rfl) pass0 (pa_cons (pv 8) (pa_cons (pe_ix ix_list (pv 1) pe_int (fun _ _ => rfl)) pa_nil))) pa_nil))) pa_nil))) pa_nil)))
        (pss_cons (ps_set (i := 6) scL_right.nd rfl (Or.inl rfl) (Ms.pcall d_rounded_up hB (hr.mono (by first | decide | omega)) (by rfl) pass0 (pa_cons (pe_ix ix_list (pv 1) (pe_un un_neg pe_int) (fun _ _ => rfl)) pa_nil)))
        (pss_one (ps_if (PW.pt (pw_or (pt_not (pt_val (Ms.pcall d_L_is_number hB (hr.mono (by first | decide | omega)) (by rfl) pass0 (pa_cons (pv 6) pa_nil)))) (pw_or1 (pt_not (pt_chain op_lt op_le (pe_op op_mulX (pe_op op_sub (pv 6) pe_int) (pe_ix ix_tup (pe_ix ix_list (pv 1) (pe_un un_neg pe_int) (fun _ _ => rfl)) pe_int (fun _ _ => rfl))) (pe_ix ix_tup (pe_ix ix_list (pv 1) (pe_un un_neg pe_int) (fun _ _ => rfl)) pe_int (fun _ _ => rfl)) (pe_op op_mulX (pv 6) (pe_ix ix_tup (pe_ix ix_list (pv 1) (pe_un un_neg pe_int) (fun _ _ => rfl)) pe_int (fun _ _ => rfl)))))))) (pss_one (ps_ret pe_bl)) pss_nil)))))
      (pss_cons (ps_for PassesOwn.never rfl (pi_zip (by rfl) E.b_zip (pa_cons (pv 1) (pa_cons (pe_op op_cat (pe_slice sl_list (pv 1) (po_some pe_int) po_none) (pe_slice sl_list (pv 1) po_none (po_some pe_int))) pa_nil))) (pg_tup rfl (pgs_cons (pg_name (i := 8) scL_right.nd rfl (Or.inl rfl)) (pgs_cons (pg_name (i := 9) scL_right.nd rfl (Or.inl rfl)) pgs_nil)))
        (pss_cons (ps_set (i := 10) scL_right.nd rfl (Or.inl rfl) (Ms.pcall d_is_under hB (hr.mono (by first | decide | omega)) (by rfl) pass0 (pa_cons (pe_ix ix_list (pe_lst (pa_cons (pv 8) (pa_cons (pe_callTy call_list_of (by rfl) E.b_list (by decide +kernel) (pa_cons (pv 8) pa_nil)) pa_nil))) (Ms.pcall d_L_take hB (hr.mono (by first | decide | omega)) (by rfl) pass0 (pa_cons (pv 0) (pa_cons pe_int pa_nil))) (fun _ _ => rfl)) (pa_cons (pe_ix ix_list (pe_lst (pa_cons (pv 9) (pa_cons (pe_callTy call_list_of (by rfl) E.b_list (by decide +kernel) (pa_cons (pv 9) pa_nil)) pa_nil))) (Ms.pcall d_L_take hB (hr.mono (by first | decide | omega)) (by rfl) pass0 (pa_cons (pv 0) (pa_cons pe_int pa_nil))) (fun _ _ => rfl)) pa_nil))))
        (pss_one (ps_if (PW.pt (pw_or (pt_not (pt_val (pe_callB call_isi (by rfl) E.b_isinstance (by decide +kernel) (pa_cons (pv 10) (pa_cons (pe_bltn (v := .ty "bool") (by rfl) E.b_bool (by decide +kernel) rfl) pa_nil))))) (pw_or (pt_cmpR op_ne (pv 10) (pe_cmpR op_lt (pe_op op_mulX (pe_ix ix_tup (pv 8) pe_int (fun _ _ => rfl)) (pe_ix ix_tup (pv 9) pe_int (fun _ _ => rfl))) (pe_op op_mulX (pe_ix ix_tup (pv 9) pe_int (fun _ _ => rfl)) (pe_ix ix_tup (pv 8) pe_int (fun _ _ => rfl))) (nomark _)) (nomark _)) (pw_or1 (pt_val (Ms.pcall d_is_under hB (hr.mono (by first | decide | omega)) (by rfl) pass0 (pa_cons (pv 8) (pa_cons (pv 8) pa_nil)))))))) (pss_one (ps_ret pe_bl)) pss_nil))))
      (pss_one (ps_ret (pe_and (pe_cmpR (op_eqD hr.units) (Ms.pcall d_made hB (hr.mono (by first | decide | omega)) (by rfl) pass0 (pa_cons pe_int (pa_cons (pv 3) pa_nil))) (pe_tup (pa_cons pe_int (pa_cons pe_int pa_nil))) (nomark _)) (pe_and (pe_cmpR (op_eqD hr.units) (Ms.pcall d_made hB (hr.mono (by first | decide | omega)) (by rfl) pass0 (pa_cons (pv 3) (pa_cons (pv 3) pa_nil))) (pe_tup (pa_cons pe_int (pa_cons pe_int pa_nil))) (nomark _)) (pe_one (pe_cmpR (op_eqD hr.units) (Ms.pcall d_made hB (hr.mono (by first | decide | omega)) (by rfl) pass0 (pa_cons (pe_un un_neg (pv 3)) (pa_cons (pv 3) pa_nil))) (pe_tup (pa_cons (pe_un un_neg pe_int) (pa_cons pe_int pa_nil))) (nomark _))))))))))), ?_⟩
    refine ⟨Nat.zero_le _, fun tl ntl => ?_⟩
    have W0 : Wk b H (upd H tl (.lst [])) 0 [] tl [] := ⟨hb.new ntl, hb.ne ntl, upd_same, fun x o _ h2 e => by rw [upd_ne h2]; exact e, fun _ _ z => nomatch z⟩
    refine ⟨10, rfl, by decide, by decide, ?_⟩
    refine for_range (lo := 0) (n := 10) (fun i σ H' => ∃ y2 y3 y4 y5 y6 y7 L xs, σ = [some (.ref b), some (.ref tl), y2, y3, y4, y5, y6, y7, none, none, none] ∧
        (0 < i → ∃ u : Int, y3 = some (.int u) ∧ u ≠ 0 ∧ -(10 ^ 13) < u ∧ u < 10 ^ 13) ∧ Wk b H H' (50 * i) L tl xs ∧ xs.length = i ∧ FrsIn L xs 45)
      ⟨none, none, none, none, none, none, [], [], rfl, (fun z => absurd z (by decide)), W0.more (by decide), rfl, fun _ z => nomatch z⟩ ?_ ?_
    · rintro i σ H1 hi ⟨y2, y3, y4, y5, y6, y7, L, xs, rfl, -, W1, lx, fx⟩
      refine ⟨.ref b, rfl, b, _, rfl, W1.bx, by omega, fun t H2 t0 t1 hb2 k2 => ?_⟩
      have W2 := W1.call k2 hb2
      refine ⟨.ref b, rfl, b, _, rfl, W2.bx, by omega, fun u H3 u0 u1 hb3 k3 => ⟨_, _, rfl, ?_⟩⟩
      have W3 := W2.call k3 hb3
      refine ⟨fun v H' => ∃ z : Int, v = .int z ∧ z ≠ 0 ∧ -(10 ^ 13) < z ∧ z < 10 ^ 13 ∧ H' = H3, ?_, ?_⟩
      · refine ⟨.int u, rfl, rfl, _, rfl, ite2 (fun c => ⟨1, rfl, by decide, by decide, by decide, rfl⟩) (fun c => ⟨.int u, rfl, u, rfl, fun z => c (decide_eq_true (congrArg V.int z)), u0, u1, rfl⟩)⟩
      rintro _ H' ⟨z, rfl, z0, z1, z2, rfl⟩
      refine ⟨.int t, rfl, .int z, rfl, t, z, 45, rfl, z0, by omega, by decide, fun p np => ?_⟩
      have bq : Bd (Rat.divInt t z) 45 := bd_div z0 (by omega) (by omega)
      have W4 := W3.newT (ys := frV (Rat.divInt t z)) np
      have W5 := W4
      refine ⟨.ref p, rfl, .ref p, _, rfl, dp_fr (W4.tup List.mem_cons_self), fun H5 s5 => ⟨true, congrArg V.bl (fr_fr _), iteF ?_⟩⟩
      have W5 := W4.same s5
      have T5 : SqT K H5 p (frV (Rat.divInt t z)) := W5.tup List.mem_cons_self
      refine ⟨.ref p, rfl, .ref p, _, rfl, dp_fr T5, true, congrArg V.bl (fr_fr _), iteF ?_⟩
      refine ⟨.ref p, rfl, p, _, 0, _, rfl, rfl, T5, rfl, .int z, rfl, _, _, rfl, rfl, mulx (b := 45) bq.top (by omega) (by decide), ?_⟩
      refine ⟨.int t, rfl, .ref p, rfl, p, _, 1, _, rfl, rfl, T5, rfl, _, _, rfl, rfl, mulx (a := 45) (by omega) (nat_lt_pow' bq.bel) (by decide), rfl, _, rfl, iteNS (congrArg V.int (cross z0)) ?_⟩
      -- few
      refine ⟨1, rfl, 6, rfl, (show 5 ≤ sizeLine by decide), fun pl npl => ?_⟩
      have W6 := W5.new (o := .lst [.int 2, .int 3, .int 10, .int (-1), .int (-6)]) npl
      refine ⟨.ref b, rfl, b, _, 5, rfl, W6.bx, by omega, by decide, by decide, fun r H6 r0 r1 hb6 k6 => ?_⟩
      have W7 := W6.call k6 hb6
      obtain ⟨v, hv, mv⟩ := pick (xs := [V.int 2, .int 3, .int 10, .int (-1), .int (-6)]) r0 r1
      obtain ⟨k, rfl, k0, kl, kh⟩ := few5 mv
      refine ⟨pl, _, r, .int k, rfl, rfl, .inl (.inl (k6.get (W5.bx.ne npl) upd_same)), hv, ?_⟩
      refine ⟨fun σ H' => σ = [some (.ref b), some (.ref tl), some (.int (0 + (i : Int))), some (.int z), some (.ref p), some (.int k), y6, some (.int t), none, none, none] ∧ Wk b H H' (50 * (i : Int) + 41) ((p, frV (Rat.divInt t z)) :: L) tl xs, ?_, ?_⟩
      · refine ⟨.int t, rfl, t, rfl, .int z, rfl, z, rfl, _, _, rfl, _, _, rfl, rfl, ⟨by decide, by decide, by decide⟩, _, _, rfl, rfl, _, rfl, ite2 (fun c => ?_) (fun c => ?_)⟩
        · have tk : (t * k).natAbs < 2 ^ 50 := mul_lt (a := 45) (b := 5) (by omega) (by omega)
          have zk : (z * k).natAbs < 2 ^ 50 := mul_lt (a := 45) (b := 5) (by omega) (by omega)
          refine ⟨.int t, rfl, .int k, rfl, _, _, rfl, rfl, cmul_l (by omega) (by omega), .int z, rfl, .int k, rfl, _, _, rfl, rfl, cmul_l (by omega) (by omega), t * k, z * k, 50, rfl, Int.mul_ne_zero z0 k0, zk, by decide, fun p2 np2 => ?_⟩
          have W8 := W7.newT (ys := frV (Rat.divInt (t * k) (z * k))) np2
          refine ⟨.ref p, rfl, _, _, dp_fr (W8.tup List.mem_cons_self), dp_fr (W8.tup (List.mem_cons_of_mem _ List.mem_cons_self)), rfl, rfl, false, congrArg V.bl (eqv_no (Rat.divInt_mul_right k0)), iteF ?_⟩
          exact ⟨rfl, (W8.sub fun z hz => List.mem_cons_of_mem _ hz).more (by omega)⟩
        · exact ⟨rfl, W7.more (by omega)⟩
      rintro σ H8 ⟨rfl, W8⟩
      refine ⟨.int t, rfl, t, rfl, .int z, rfl, z, rfl, -t, -z, 45, rfl, by omega, by omega, by decide, fun p3 np3 => ?_⟩
      have W9 := W8.newT (ys := frV (Rat.divInt (-t) (-z))) np3
      refine ⟨.ref p, rfl, _, _, dp_fr (W9.tup List.mem_cons_self), dp_fr (W9.tup (List.mem_cons_of_mem _ List.mem_cons_self)), rfl, rfl, false, congrArg V.bl (eqv_no (Rat.neg_divInt_neg t z)), iteF ?_⟩
      have Wa := W9.sub (L' := (p, frV (Rat.divInt t z)) :: L) fun z hz => List.mem_cons_of_mem _ hz
      clear W9 W8 W7 W6 W5 W4 W3 W2 T5
      generalize upd H8 p3 (.tup (frV (Rat.divInt (-t) (-z)))) = Ha at *
      have Ta : SqT K Ha p (frV (Rat.divInt t z)) := Wa.tup List.mem_cons_self
      refine ⟨.ref p, rfl, .ref p, rfl, p, _, rfl, .inr Ta, fun l nl => ⟨(show 2 ≤ sizeLine by decide), fun p4 np4 => ?_⟩⟩
      have Wb := (Wa.new (o := .lst (frV (Rat.divInt t z))) nl).new (o := .lst [.ref p, .ref l]) np4
      refine ⟨.ref b, rfl, b, _, 2, rfl, Wb.bx, by omega, by decide, by decide, fun r2 Hc r20 r21 hbc kc => ?_⟩
      have Wc := Wb.call kc hbc
      obtain ⟨v, hv2, mv2⟩ := pick (xs := [V.ref p, V.ref l]) r20 r21
      have nlb : l ≠ b := Wa.bx.ne nl
      have lp4 : l ≠ p4 := ne_of_none upd_same np4
      have Fv : Fr K Hc v (Rat.divInt t z) := by
        rcases two_of mv2 with rfl | rfl
        · exact fr_tup' (Wc.tup List.mem_cons_self)
        · exact ⟨l, rfl, .inl (.inl (.inl (kc.get nlb (by rw [upd_ne lp4, upd_same]))))⟩
      refine ⟨p4, _, r2, v, rfl, rfl, .inl (.inl (kc.get ((Wa.new nl).bx.ne np4) upd_same)), hv2, v, Rat.divInt t z, 45, rfl, Fv, bq, by decide, ?_⟩
      have Tc : SqT K Hc p (frV (Rat.divInt t z)) := Wc.tup List.mem_cons_self
      obtain ⟨ua, ub⟩ := up_le bq
      refine ⟨_, rfl, _, .int (upTo (Rat.divInt t z)), rfl, .int _, true, rfl, iteF ?_⟩
      refine ⟨_, rfl, _, _, rfl, rfl, .ref p, rfl, p, _, 1, _, rfl, rfl, Tc, rfl, _, _, rfl, rfl, mulx ub (nat_lt_pow' bq.bel) (by decide), .ref p, rfl, p, _, 0, _, rfl, rfl, Tc, rfl, _, _, rfl, rfl, true, congrArg V.bl (decide_eq_true (up_lo _)), iteT ?_⟩
      refine ⟨_, rfl, .ref p, rfl, p, _, 1, _, rfl, rfl, Tc, rfl, _, _, rfl, rfl, mulx ua (nat_lt_pow' bq.bel) (by decide), _, _, rfl, rfl, true, congrArg V.bl (decide_eq_true (up_hi _)), iteF ?_⟩
      refine ⟨.ref tl, rfl, .inl ⟨rfl, _, .inl (.inl Wc.at_)⟩, .ref p, rfl, tl, xs, .ref p, rfl, rfl, Wc.at_, small1000 (by omega), ?_⟩
      refine ⟨_, _, _, _, _, _, (p, frV (Rat.divInt t z)) :: L, xs ++ [.ref p], rfl, fun _ => ⟨z, rfl, z0, z1, z2⟩, (Wc.app (ys := xs ++ [.ref p])).more (by omega), by rw [List.length_append, lx]; rfl, ?_⟩
      exact (fx.sub fun z hz => List.mem_cons_of_mem _ hz).snoc List.mem_cons_self bq
    · rintro σ H1 ⟨y2, y3, y4, y5, y6, y7, L, xs, rfl, hy, W1, lx, fx⟩
      obtain ⟨u, rfl, u0, u1, u2⟩ := hy (by decide)
      clear hy
      -- zip(told[:4], told[4:8])
      refine ⟨.ref tl, rfl, 4, rfl, tl, xs, rfl, .inl (.inl W1.at_), fun s1 ns1 => ?_⟩
      have W2 := W1.new (o := .lst (cutV xs none (some 4))) ns1
      refine ⟨.ref tl, rfl, 4, rfl, 8, rfl, tl, xs, rfl, .inl (.inl W2.at_), fun s2 ns2 => ?_⟩
      have W3 := W2.new (o := .lst (cutV xs (some 4) (some 8))) ns2
      have n12 : s1 ≠ s2 := ne_of_none upd_same ns2
      have n1t : s1 ≠ tl := (ne_of_none W1.at_ ns1).symm
      have n2t : s2 ≠ tl := (ne_of_none W2.at_ ns2).symm
      have e2 : (upd (upd H1 s1 (.lst (cutV xs none (some 4)))) s2 (.lst (cutV xs (some 4) (some 8)))) s2 = some (.lst (cutV xs (some 4) (some 8))) := upd_same
      have e1 : (upd (upd H1 s1 (.lst (cutV xs none (some 4)))) s2 (.lst (cutV xs (some 4) (some 8)))) s1 = some (.lst (cutV xs none (some 4))) := by rw [upd_ne n12, upd_same]
      generalize upd (upd H1 s1 (.lst (cutV xs none (some 4)))) s2 (.lst (cutV xs (some 4) (some 8))) = H3 at *
      have c1 : cutV xs none (some 4) = xs.take 4 := by
        unfold cutV
        rw [HT.sIx_none, show (some (4 : Int)) = some ((4 : Nat) : Int) from rfl, HT.sIx_nat, lx]
        rfl
      have c2 : cutV xs (some 4) (some 8) = (xs.drop 4).take 4 := by
        unfold cutV
        rw [show (some (4 : Int)) = some ((4 : Nat) : Int) from rfl, show (some (8 : Int)) = some ((8 : Nat) : Int) from rfl, HT.sIx_nat, HT.sIx_nat, lx]
        rfl
      rw [c1] at e1
      rw [c2] at e2
      refine ⟨s1, s2, xs.take 4, (xs.drop 4).take 4, rfl, .inl (.inl e1), .inl (.inl e2), ?_⟩
      refine RZ.for_zipL (K := K) (a := s1) (b := s2) (xs := xs.take 4) (ys := (xs.drop 4).take 4) (by rw [List.length_take, List.length_take, List.length_drop, lx]; decide)
        (fun i σ H' => ∃ y2 y4 y5 y6 y7 y8 y9 L' more, σ = [some (.ref b), some (.ref tl), y2, some (.int u), y4, y5, y6, y7, y8, y9, none] ∧ Wk b H H' 500 L' tl (xs ++ more) ∧ more.length = i ∧
          FrsIn L' xs 45 ∧ FrsIn L' (xs ++ more) 300 ∧ H' s1 = some (.lst (xs.take 4)) ∧ H' s2 = some (.lst ((xs.drop 4).take 4)))
        ⟨_, _, _, _, _, _, _, L, [], rfl, by rw [List.append_nil]; exact W3.more (by decide), rfl, fx, by rw [List.append_nil]; exact fx.more (by decide), e1, e2⟩ ?_ ?_ ?_
      · rintro i σ H' ⟨_, _, _, _, _, _, _, _, _, _, _, _, _, _, z1, z2⟩
        exact ⟨.inl (.inl z1), .inl (.inl z2)⟩
      · rintro i x y T σ H4 hx hy ⟨y2, y4, y5, y6, y7, y8, y9, L4, more, rfl, W4, lm, f4, g4, z1, z2⟩ nT
        have W5 := W4.new (o := .tup [x, y]) nT
        refine ⟨T, [x, y], rfl, .inl (.inl upd_same), rfl, x, [y], rfl, y, [], rfl, rfl, ?_⟩
        obtain ⟨a1, q1, rfl, m1, b1⟩ := f4 x (List.mem_of_mem_take (List.mem_of_getElem? hx))
        obtain ⟨a2, q2, rfl, m2, b2⟩ := f4 y (List.mem_of_mem_drop (List.mem_of_mem_take (List.mem_of_getElem? hy)))
        have h8 : 8 < xs.length := by omega
        obtain ⟨a3, q3, ea3, m3, b3⟩ := f4 xs[8] (List.getElem_mem h8)
        have at8 : atI (xs ++ more) 8 = some (.ref a3) := at_of (j := 8) rfl (by rw [List.getElem?_append_left h8, List.getElem?_eq_getElem h8, ea3])
        have eT := W5
        refine ⟨.ref tl, rfl, .inl ⟨rfl, _, .inl (.inl W5.at_)⟩, .ref a1, rfl, .ref a2, rfl, .ref a1, rfl, .ref tl, rfl, tl, _, 8, .ref a3, rfl, rfl, .inl (.inl W5.at_), at8, ?_⟩
        refine ⟨.ref a1, .ref a3, q1, q3, 45, 45, rfl, fr_tup' (W5.tup m1), fr_tup' (W5.tup m3), b1, b3, by decide, fun p1 np1 => ?_⟩
        have W6 := W5.newT (ys := frV (q1 * q3)) np1
        refine ⟨.ref a2, .ref p1, q2, q1 * q3, 45, 90, rfl, fr_tup' (W6.tup (List.mem_cons_of_mem _ m2)), fr_tup' (W6.tup List.mem_cons_self), b2, bd_times b1 b3, by decide, fun p2 np2 => ?_⟩
        have W7 := W6.newT (ys := frV (q2 + q1 * q3)) np2
        refine ⟨.ref a1, .ref p2, q1, q2 + q1 * q3, 45, 136, rfl, fr_tup' (W7.tup (List.mem_cons_of_mem _ (List.mem_cons_of_mem _ m1))), fr_tup' (W7.tup List.mem_cons_self), b1, bd_plus b2 (bd_times b1 b3), by decide, fun p3 np3 => ?_⟩
        have W8 := W7.newT (ys := frV (q1 * (q2 + q1 * q3))) np3
        have b8 : Bd (q1 * (q2 + q1 * q3)) 181 := bd_times b1 (bd_plus b2 (bd_times b1 b3))
        generalize q1 * (q2 + q1 * q3) = q8 at *
        refine ⟨tl, _, .ref p3, rfl, rfl, W8.at_, small1000 (by rw [List.length_append, lx]; have : i < 4 := by
                                                                  have := (List.getElem?_eq_some_iff.mp hx).1
                                                                  rw [List.length_take, lx] at this
                                                                  omega
                                                                omega), ?_⟩
        have W9 := W8.app (ys := xs ++ more ++ [.ref p3])
        have n1 : s1 ≠ T := ne_of_none z1 nT
        have n2 : s2 ≠ T := ne_of_none z2 nT
        have zz : ∀ c o, c ≠ tl → H4 c = some o → (upd (upd (upd (upd (upd H4 T (.tup [.ref a1, .ref a2])) p1 (.tup (frV (q1 * q3)))) p2 (.tup (frV (q2 + q1 * q3)))) p3 (.tup (frV q8))) tl (.lst (xs ++ more ++ [.ref p3]))) c = some o := fun c o hc e => by
          rw [upd_ne hc]
          exact same_new np3 _ _ (same_new np2 _ _ (same_new np1 _ _ (same_new nT _ _ e)))
        have y1 := zz s1 _ n1t z1
        have y2' := zz s2 _ n2t z2
        have lst : atI (xs ++ more ++ [V.ref p3]) (-1) = some (.ref p3) := atI_last _ _
        have m8 : (p3, frV q8) ∈ (p3, frV q8) :: (p2, frV (q2 + q1 * q3)) :: (p1, frV (q1 * q3)) :: L4 := List.mem_cons_self
        clear zz W8 W7 W6 W5 eT
        generalize (upd (upd (upd (upd (upd H4 T (.tup [.ref a1, .ref a2])) p1 (.tup (frV (q1 * q3)))) p2 (.tup (frV (q2 + q1 * q3)))) p3 (.tup (frV q8))) tl (.lst (xs ++ more ++ [.ref p3]))) = H9 at *
        have T9 : SqT K H9 p3 (frV q8) := W9.tup m8
        have A9 : SqL K H9 tl (xs ++ more ++ [.ref p3]) := .inl (.inl W9.at_)
        refine ⟨.ref tl, rfl, 1, rfl, tl, _, -1, .ref p3, rfl, rfl, A9, lst, .ref p3, q8, 181, rfl, fr_tup' T9, b8, by decide, ?_⟩
        obtain ⟨ua, ub⟩ := up_le b8
        refine ⟨_, rfl, _, .int (upTo q8), rfl, .int _, true, rfl, iteF ?_⟩
        refine ⟨_, rfl, _, _, rfl, rfl, .ref tl, rfl, 1, rfl, tl, _, -1, .ref p3, rfl, rfl, A9, lst, p3, _, 1, _, rfl, rfl, T9, rfl, _, _, rfl, rfl, mulx ub (nat_lt_pow' b8.bel) (by decide), ?_⟩
        refine ⟨.ref tl, rfl, 1, rfl, tl, _, -1, .ref p3, rfl, rfl, A9, lst, p3, _, 0, _, rfl, rfl, T9, rfl, _, _, rfl, rfl, true, congrArg V.bl (decide_eq_true (up_lo _)), iteT ?_⟩
        refine ⟨_, rfl, .ref tl, rfl, 1, rfl, tl, _, -1, .ref p3, rfl, rfl, A9, lst, p3, _, 1, _, rfl, rfl, T9, rfl, _, _, rfl, rfl, mulx ua (nat_lt_pow' b8.bel) (by decide), _, _, rfl, rfl, true, congrArg V.bl (decide_eq_true (up_hi _)), iteF ?_⟩
        refine ⟨_, _, _, _, _, _, _, _, more ++ [.ref p3], rfl, by rw [← List.append_assoc]; exact W9, by rw [List.length_append, lm]; rfl, f4.sub fun z hz => List.mem_cons_of_mem _ (List.mem_cons_of_mem _ (List.mem_cons_of_mem _ hz)), ?_, y1, y2'⟩
        rw [← List.append_assoc]
        exact (g4.sub fun z hz => List.mem_cons_of_mem _ (List.mem_cons_of_mem _ (List.mem_cons_of_mem _ hz))).snoc m8 (b8.more (by decide))
      · rintro σ H4 ⟨y2, y4, y5, y6, y7, y8, y9, L4, more, rfl, W4, lm, f4, g4, z1, z2⟩
        rw [List.length_take, lx] at lm
        have l14 : (xs ++ more).length = 14 := by rw [List.length_append, lx, lm]; rfl
        generalize xs ++ more = ws at *
        clear f4 z1 z2 lm e1 e2 W3 W2 W1 W0 ns2 ns1 fx lx c1 c2 n12 n1t n2t
        -- zip(told, told[1:] + told[:1])
        have cA : cutV ws (some 1) none = ws.drop 1 := by
          unfold cutV
          rw [HT.sIx_none, show (some (1 : Int)) = some ((1 : Nat) : Int) from rfl, HT.sIx_nat, l14]
          exact List.take_of_length_le (by rw [List.length_drop, l14]; decide)
        have cB : cutV ws none (some 1) = ws.take 1 := by
          unfold cutV
          rw [HT.sIx_none, show (some (1 : Int)) = some ((1 : Nat) : Int) from rfl, HT.sIx_nat, l14]
          rfl
        refine ⟨.ref tl, rfl, .ref tl, rfl, 1, rfl, tl, ws, rfl, .inl (.inl W4.at_), fun a1 na1 => ?_⟩
        have W5 := W4.new (o := .lst (cutV ws (some 1) none)) na1
        refine ⟨.ref tl, rfl, 1, rfl, tl, ws, rfl, .inl (.inl W5.at_), fun a2 na2 => ?_⟩
        have W6 := W5.new (o := .lst (cutV ws none (some 1))) na2
        have n12 : a1 ≠ a2 := ne_of_none upd_same na2
        refine ⟨a1, a2, _, _, rfl, rfl, by rw [upd_ne n12, upd_same], upd_same, by rw [cA, cB, List.length_drop, List.length_take, l14]; decide, fun a3 na3 => ?_⟩
        have W7 := W6.new (o := .lst (cutV ws (some 1) none ++ cutV ws none (some 1))) na3
        have n3b : a3 ≠ b := W6.bx.ne na3
        rw [cA, cB] at W7
        have e3 : (upd (upd (upd H4 a1 (.lst (cutV ws (some 1) none))) a2 (.lst (cutV ws none (some 1)))) a3 (.lst (cutV ws (some 1) none ++ cutV ws none (some 1)))) a3 = some (.lst (ws.drop 1 ++ ws.take 1)) := by
          rw [upd_same, cA, cB]
        rw [cA, cB] at e3 ⊢
        generalize (upd (upd (upd H4 a1 (.lst (ws.drop 1))) a2 (.lst (ws.take 1))) a3 (.lst (ws.drop 1 ++ ws.take 1))) = H7 at *
        refine ⟨tl, a3, ws, ws.drop 1 ++ ws.take 1, rfl, .inl (.inl W7.at_), .inl (.inl e3), ?_⟩
        refine RZ.for_zipL (K := K) (a := tl) (b := a3) (xs := ws) (ys := ws.drop 1 ++ ws.take 1) (by rw [List.length_append, List.length_drop, List.length_take, l14]; decide)
          (fun i σ H' => ∃ y2 y4 y5 y6 y7 y8 y9 y10, σ = [some (.ref b), some (.ref tl), y2, some (.int u), y4, y5, y6, y7, y8, y9, y10] ∧ Wk b H H' (500 + 2 * (i : Int)) L4 tl ws ∧ H' a3 = some (.lst (ws.drop 1 ++ ws.take 1)))
          ⟨_, _, _, _, _, _, _, _, rfl, W7.more (by decide), e3⟩ ?_ ?_ ?_
        · rintro i σ H' ⟨_, _, _, _, _, _, _, _, _, z1, z2⟩
          exact ⟨.inl (.inl z1.at_), .inl (.inl z2)⟩
        · rintro i x y T σ H8 hx hy ⟨y2, y4, y5, y6, y7, y8, y9, y10, rfl, W8, z3⟩ nT
          have hi : i < 14 := by
            have := (List.getElem?_eq_some_iff.mp hx).1
            omega
          have W9 := W8.new (o := .tup [x, y]) nT
          refine ⟨T, [x, y], rfl, .inl (.inl upd_same), rfl, x, [y], rfl, y, [], rfl, rfl, ?_⟩
          obtain ⟨p1, q1, rfl, m1, b1⟩ := g4 x (List.mem_of_getElem? hx)
          have my : y ∈ ws := by
            rcases List.mem_append.mp (List.mem_of_getElem? hy) with z | z
            · exact List.mem_of_mem_drop z
            · exact List.mem_of_mem_take z
          obtain ⟨p2, q2, rfl, m2, b2⟩ := g4 y my
          have z9 := same_new (o := .tup [.ref p1, .ref p2]) nT _ _ z3
          generalize upd H8 T (.tup [.ref p1, .ref p2]) = H9 at *
          clear W8 z3 nT
          refine ⟨.ref p1, rfl, .ref p1, rfl, p1, _, rfl, .inr (W9.tup m1), fun l1 nl1 => ⟨(show 2 ≤ sizeLine by decide), fun c1 nc1 => ?_⟩⟩
          have Wa := W9.new (o := .lst (frV q1)) nl1
          have Wb := Wa.new (o := .lst [.ref p1, .ref l1]) nc1
          refine ⟨.ref b, rfl, b, _, 2, rfl, Wb.bx, by omega, by decide, by decide, fun r1 Hc r10 r11 hbc kc => ?_⟩
          have Wc := Wb.call kc hbc
          obtain ⟨v1, hv1, mv1⟩ := pick (xs := [V.ref p1, V.ref l1]) r10 r11
          have F1 : Fr K (off b Hc) v1 q1 := by
            rcases two_of mv1 with rfl | rfl
            · exact off_tup (Wc.ld _ _ m1) (Wc.bx.noTup (Wc.ld _ _ m1))
            · refine off_lst (kc.get (W9.bx.ne nl1) ?_) (W9.bx.ne nl1)
              rw [upd_ne (ne_of_none upd_same nc1), upd_same]
          have zc := kc.get n3b (same_new nc1 _ _ (same_new nl1 _ _ z9))
          refine ⟨c1, _, r1, v1, rfl, rfl, .inl (.inl (kc.get (Wa.bx.ne nc1) upd_same)), hv1, ?_⟩
          refine ⟨.ref p2, rfl, .ref p2, rfl, p2, _, rfl, .inr (Wc.tup m2), fun l2 nl2 => ⟨(show 2 ≤ sizeLine by decide), fun c2 nc2 => ?_⟩⟩
          have Wd := Wc.new (o := .lst (frV q2)) nl2
          have We := Wd.new (o := .lst [.ref p2, .ref l2]) nc2
          refine ⟨.ref b, rfl, b, _, 2, rfl, We.bx, by omega, by decide, by decide, fun r2 Hf r20 r21 hbf kf => ?_⟩
          have Wf := We.call kf hbf
          obtain ⟨v2, hv2, mv2⟩ := pick (xs := [V.ref p2, V.ref l2]) r20 r21
          have F2 : Fr K (off b Hf) v2 q2 := by
            rcases two_of mv2 with rfl | rfl
            · exact off_tup (Wf.ld _ _ m2) (Wf.bx.noTup (Wf.ld _ _ m2))
            · refine off_lst (kf.get (Wc.bx.ne nl2) ?_) (Wc.bx.ne nl2)
              rw [upd_ne (ne_of_none upd_same nc2), upd_same]
          have F1' := fr_off F1 (((Keep.new nl2).trans (Keep.new nc2)).trans kf)
          have zf := kf.get n3b (same_new nc2 _ _ (same_new nl2 _ _ zc))
          refine ⟨c2, _, r2, v2, rfl, rfl, .inl (.inl (kf.get (Wd.bx.ne nc2) upd_same)), hv2, ?_⟩
          refine ⟨v1, v2, q1, q2, 300, 300, rfl, fr_on F1', fr_on F2, b1, b2, by decide, ?_⟩
          have T1 : SqT K Hf p1 (frV q1) := Wf.tup m1
          have T2 : SqT K Hf p2 (frV q2) := Wf.tup m2
          refine ⟨_, rfl, _, .ty "bool", _, _, true, rfl, .ty _, ty_dp (.bl _), kit_bool (.bool _), true, rfl, iteF ?_⟩
          refine ⟨_, rfl, .ref p1, rfl, p1, _, 0, _, rfl, rfl, T1, rfl, .ref p2, rfl, p2, _, 1, _, rfl, rfl, T2, rfl, _, _, rfl, rfl, mulx b1.top (nat_lt_pow' b2.bel) (by decide), ?_⟩
          refine ⟨.ref p2, rfl, p2, _, 0, _, rfl, rfl, T2, rfl, .ref p1, rfl, p1, _, 1, _, rfl, rfl, T1, rfl, _, _, rfl, rfl, mulx b2.top (nat_lt_pow' b1.bel) (by decide), _, _, rfl, rfl, rfl, _, rfl, iteNS rfl ?_⟩
          refine ⟨.ref p1, rfl, .ref p1, rfl, .ref p1, .ref p1, q1, q1, 300, 300, rfl, fr_tup' T1, fr_tup' T1, b1, b1, by decide, false, congrArg V.bl (decide_eq_false (Int.lt_irrefl _)), iteF ?_⟩
          exact ⟨_, _, _, _, _, _, _, _, rfl, Wf.more (by omega), zf⟩
        · rintro σ H8 ⟨y2, y4, y5, y6, y7, y8, y9, y10, rfl, W8, -⟩
          refine ⟨.int u, rfl, 0, u, 45, rfl, u0, by omega, by decide, fun p1 np1 => ⟨(show 2 ≤ sizeLine by decide), fun c1 nc1 => ?_⟩⟩
          have Wa := W8.newT (ys := frV (Rat.divInt 0 u)) np1
          have Wb := Wa.newT (ys := [.int 0, .int 1]) nc1
          refine ⟨_, .tuple [.int 0, .int 1], dp_fr (Wb.tup (List.mem_cons_of_mem _ List.mem_cons_self)), .tup (Wb.tup List.mem_cons_self) (.cons (.int _) (.cons (.int _) .nil)), rfl, rfl, true, congrArg V.bl (eqv_yes (r := 0) (Rat.zero_divInt u)), iteT ?_⟩
          refine ⟨.int u, rfl, .int u, rfl, u, u, 45, rfl, u0, by omega, by decide, fun p2 np2 => ⟨(show 2 ≤ sizeLine by decide), fun c2 nc2 => ?_⟩⟩
          have Wc := Wb.newT (ys := frV (Rat.divInt u u)) np2
          have Wd := Wc.newT (ys := [.int 1, .int 1]) nc2
          have uu : Rat.divInt u u = 1 := by
            have := Rat.divInt_mul_right (n := 1) (d := 1) u0
            rw [Int.one_mul] at this
            rw [this]
            rfl
          refine ⟨_, .tuple [.int 1, .int 1], dp_fr (Wd.tup (List.mem_cons_of_mem _ List.mem_cons_self)), .tup (Wd.tup List.mem_cons_self) (.cons (.int _) (.cons (.int _) .nil)), rfl, rfl, true, congrArg V.bl (eqv_yes (r := 1) uu), iteT ?_⟩
          refine ⟨.int u, rfl, u, rfl, .int u, rfl, -u, u, 45, rfl, u0, by omega, by decide, fun p3 np3 => ⟨1, rfl, (show 2 ≤ sizeLine by decide), fun c3 nc3 => ?_⟩⟩
          have We := Wd.newT (ys := frV (Rat.divInt (-u) u)) np3
          have Wf := We.newT (ys := [.int (-1), .int 1]) nc3
          have nu : Rat.divInt (-u) u = -1 := by
            rw [← Rat.neg_divInt, uu]
          refine ⟨_, .tuple [.int (-1), .int 1], dp_fr (Wf.tup (List.mem_cons_of_mem _ List.mem_cons_self)), .tup (Wf.tup List.mem_cons_self) (.cons (.int _) (.cons (.int _) .nil)), rfl, rfl, ?_⟩
          rw [show PyData.eqv (frD (Rat.divInt (-u) u)) (.tuple [.int (-1), .int 1]) = true from eqv_yes (r := -1) nu]
          refine q _ (Keep.of fun x o hx e => ?_)
          exact Wf.kp x o hx (ne_of_none e ntl) e
abbrev slaw : Stmt := topS 20
abbrev Nlaw : List Str := ["_law_script", "_law_cells", "_law_k"]
theorem sclaw : FnScope ["_law_script", "_law_cells", "_law_k"] ["_law_script"] (defScope slaw) := ⟨rfl, rfl, rfl, by decide +kernel, rfl, by decide +kernel, by decide +kernel⟩

def spLaw (K : PySem.W.Frag) : Sp := fun vs H Q _ => ∃ (a : Addr) (ns : List Int), vs = [.ref a] ∧ SqL K H a (ns.map V.int) ∧ ns.length ≤ 63 ∧ ∀ H', Q (.bl true) H'
theorem all_true (n : Nat) : (List.replicate n true).all id = true := by
  rw [List.all_eq_true]
  intro x hx
  rw [List.eq_of_mem_replicate hx]
  rfl
theorem ok_law {f : Addr} {fd : FuncData} (F : Fun K "law" "law" slaw f fd) (E : Bi mg)
    (d_L_folded : Def P w K mg base CX0 1 "_law_folded" ["_law_script", "_law_size_here"] (spFold K)) (d_L_box : Def P w K mg base CX0 1 "_law_box" ["_law_script", "_law_k"] (spBox K))
    (d_L_right : Def P w K mg base CX0 4 "_law_right" ["_law_box_here"] spRight) :
    FnG P w K mg base CX0 (4 + 1) f fd ["_law_script"] (spLaw K) := by
  refine okG0 (k := 4) F sclaw (fun vs H Q E h => ?_) (fun cdv A outer s H vs Q E' hB hr h => ?_)
  · obtain ⟨a, ns, rfl, _⟩ := h
    rfl
  · obtain ⟨a, ns, rfl, hS, hl, q⟩ := h
    refine ⟨_, (pss_cons (ps_set (i := 1) sclaw.nd rfl (Or.inr rfl) (Ms.pcall d_L_folded hB (hr.mono (by first | decide | omega)) (by rfl) pass0 (pa_cons (pv 0) (pa_cons pe_int pa_nil))))
      (pss_one (ps_ret (pe_callB (cr_all rfl) (by rfl) E.b_all (by decide +kernel) (pa_cons (pe_lc (own := [("_law_k", 2)]) (g := gName 2) (tt := tYes) rfl sclaw.nd (pi_range1 (by rfl) E.b_range (pa_cons (pe_callB (call_max2 rfl) (by rfl) E.b_max (by decide +kernel) (pa_cons pe_int (pa_cons (pe_callB call_len_seq (by rfl) E.b_len PySem.boot_len (pa_cons (pv 1) pa_nil)) pa_nil))) pa_nil)) (blkOk_by (own := [("_law_k", 2)]) (N := Nlaw) (sc := defScope slaw) (by decide +kernel)) (fun _ _ _ _ _ => (pg_name (i := 2) sclaw.nd rfl (Or.inl rfl))) (fun _ _ _ _ _ => pts_nil) (fun _ _ _ _ _ => (Ms.pcall d_L_right hB (hr.mono (by first | decide | omega)) (by rfl) pass0 (pa_cons (Ms.pcall d_L_box hB (hr.mono (by first | decide | omega)) (by rfl) pass0 (pa_cons (pv 1) (pa_cons (pv 2) pa_nil))) pa_nil)))) pa_nil))))), ?_⟩
    refine ⟨.ref a, rfl, a, ns, 8, rfl, hS, hl, by decide, by decide, fun p cs H1 np sm ep lc => ?_⟩
    have lc1 : cs.length ≤ 63 := by
      rw [lc]
      exact Nat.le_trans (Nat.min_le_right _ _) hl
    have hP : SqL K H1 p (cs.map V.int) := .inl (.inl ep)
    refine ⟨.ref p, rfl, p, _, rfl, .inl hP, 1, _, rfl, _, rfl, ?_, ?_, fun D nD => ?_⟩
    · rw [List.length_map]
      split <;> omega
    · rw [List.length_map]
      split <;> omega
    refine lc_range (lo := 0) (fun i H' => H' D = some (.lst ((List.replicate i true).map V.bl)) ∧ Same H1 H') ⟨upd_same, same_new nD⟩ ?_ ?_
    · rintro i H2 hi ⟨eD, s2⟩
      rw [List.length_map] at hi
      have hi2 : i < 63 := by
        split at hi
        · omega
        · have : i < 1 := hi
          omega
      refine ⟨rfl, yes ?_⟩
      refine ⟨.ref p, rfl, .int (0 + i), rfl, p, cs, _, rfl, s2.seq hP, by omega, by omega, fun b H3 nb s3 hb3 => ?_⟩
      refine ⟨b, rfl, hb3, fun H4 k4 => ?_⟩
      have s4 : Same H2 H4 := fun x o e => k4.get (ne_of_none e nb) (s3 _ _ e)
      refine ⟨_, s4 _ _ eD, ?_, ?_, fun x o e => ?_⟩
      · rw [List.length_map, List.length_replicate]
        exact small1000 (by omega)
      · rw [upd_same, List.replicate_succ', List.map_append]
        rfl
      · rw [upd_ne (ne_of_none e nD)]
        exact s4 _ _ (s2 _ _ e)
    · rintro H2 ⟨eD, s2⟩
      refine ⟨D, _, rfl, .inl (.inl eD), ?_⟩
      rw [all_true]
      exact q _
end
/-! ### what the top has written -/
theorem all_mk {l : PySem.W.OpenLaw} {w : World} {K : PySem.W.Frag} {h : Heap} {mg : Str → Option Value} {fa : Addr}
    {f0 f1 f2 f3 f4 f5 f6 f7 f8 f9 f10 f11 f12 f13 f14 f15 f16 f17 : Addr} {od0 an0 od1 an1 od2 an2 od3 an3 od4 an4 od5 an5 od6 an6 od7 an7 od8 an8 od9 an9 od10 an10 od11 an11 od12 an12 od13 an13 od14 an14 od15 an15 od16 an16 od17 an17 : Option Addr} {sl0 sl1 sl2 sl3 sl4 sl5 sl6 sl7 sl8 sl9 sl10 sl11 sl12 sl13 sl14 sl15 sl16 sl17 : Array (Option Value)}
    {oc0 kV0 dc0 pm0 cd0 ct0 oc1 kV1 dc1 pm1 cd1 ct1 oc2 kV2 dc2 pm2 cd2 ct2 oc3 kV3 dc3 pm3 cd3 ct3 oc4 kV4 dc4 pm4 cd4 ct4 oc5 kV5 dc5 pm5 cd5 ct5 oc6 kV6 dc6 pm6 cd6 ct6 oc7 kV7 dc7 pm7 cd7 ct7 oc8 kV8 dc8 pm8 cd8 ct8 oc9 kV9 dc9 pm9 cd9 ct9 oc10 kV10 dc10 pm10 cd10 ct10 oc11 kV11 dc11 pm11 cd11 ct11 oc12 kV12 dc12 pm12 cd12 ct12 oc13 kV13 dc13 pm13 cd13 ct13 oc14 kV14 dc14 pm14 cd14 ct14 oc15 kV15 dc15 pm15 cd15 ct15 oc16 kV16 dc16 pm16 cd16 ct16 oc17 kV17 dc17 pm17 cd17 ct17 : Value}
    (X : K.In h) (G : h.Ns mainGlobals mg) (hfa : mg "law" = some (.ref fa))
    (a0 : PySem.W.nsIn K mainGlobals "is_number" = some (some (.ref f0)))
    (l0 : K.lookup f0 = some ⟨oc0, od0, .func (PySem.W.fnOf "is_number" "is_number" (defArgs sis_number) (defBody sis_number) (defScope sis_number) .none kV0 dc0 pm0 an0 cd0 ct0), sl0⟩)
    (c0 : PySem.W.codeIn K cd0 "is_number" = true) (k0 : PySem.W.keepIn K (.ref f0) = true)
    (a1 : PySem.W.nsIn K mainGlobals "is_pair" = some (some (.ref f1)))
    (l1 : K.lookup f1 = some ⟨oc1, od1, .func (PySem.W.fnOf "is_pair" "is_pair" (defArgs sis_pair) (defBody sis_pair) (defScope sis_pair) .none kV1 dc1 pm1 an1 cd1 ct1), sl1⟩)
    (c1 : PySem.W.codeIn K cd1 "is_pair" = true) (k1 : PySem.W.keepIn K (.ref f1) = true)
    (a2 : PySem.W.nsIn K mainGlobals "common_divisor" = some (some (.ref f2)))
    (l2 : K.lookup f2 = some ⟨oc2, od2, .func (PySem.W.fnOf "common_divisor" "common_divisor" (defArgs scommon_divisor) (defBody scommon_divisor) (defScope scommon_divisor) .none kV2 dc2 pm2 an2 cd2 ct2), sl2⟩)
    (c2 : PySem.W.codeIn K cd2 "common_divisor" = true) (k2 : PySem.W.keepIn K (.ref f2) = true)
    (a3 : PySem.W.nsIn K mainGlobals "is_fraction" = some (some (.ref f3)))
    (l3 : K.lookup f3 = some ⟨oc3, od3, .func (PySem.W.fnOf "is_fraction" "is_fraction" (defArgs sis_fraction) (defBody sis_fraction) (defScope sis_fraction) .none kV3 dc3 pm3 an3 cd3 ct3), sl3⟩)
    (c3 : PySem.W.codeIn K cd3 "is_fraction" = true) (k3 : PySem.W.keepIn K (.ref f3) = true)
    (a4 : PySem.W.nsIn K mainGlobals "made" = some (some (.ref f4)))
    (l4 : K.lookup f4 = some ⟨oc4, od4, .func (PySem.W.fnOf "made" "made" (defArgs smade) (defBody smade) (defScope smade) .none kV4 dc4 pm4 an4 cd4 ct4), sl4⟩)
    (c4 : PySem.W.codeIn K cd4 "made" = true) (k4 : PySem.W.keepIn K (.ref f4) = true)
    (a5 : PySem.W.nsIn K mainGlobals "plus" = some (some (.ref f5)))
    (l5 : K.lookup f5 = some ⟨oc5, od5, .func (PySem.W.fnOf "plus" "plus" (defArgs splus) (defBody splus) (defScope splus) .none kV5 dc5 pm5 an5 cd5 ct5), sl5⟩)
    (c5 : PySem.W.codeIn K cd5 "plus" = true) (k5 : PySem.W.keepIn K (.ref f5) = true)
    (a6 : PySem.W.nsIn K mainGlobals "times" = some (some (.ref f6)))
    (l6 : K.lookup f6 = some ⟨oc6, od6, .func (PySem.W.fnOf "times" "times" (defArgs stimes) (defBody stimes) (defScope stimes) .none kV6 dc6 pm6 an6 cd6 ct6), sl6⟩)
    (c6 : PySem.W.codeIn K cd6 "times" = true) (k6 : PySem.W.keepIn K (.ref f6) = true)
    (a7 : PySem.W.nsIn K mainGlobals "is_under" = some (some (.ref f7)))
    (l7 : K.lookup f7 = some ⟨oc7, od7, .func (PySem.W.fnOf "is_under" "is_under" (defArgs sis_under) (defBody sis_under) (defScope sis_under) .none kV7 dc7 pm7 an7 cd7 ct7), sl7⟩)
    (c7 : PySem.W.codeIn K cd7 "is_under" = true) (k7 : PySem.W.keepIn K (.ref f7) = true)
    (a8 : PySem.W.nsIn K mainGlobals "rounded_up" = some (some (.ref f8)))
    (l8 : K.lookup f8 = some ⟨oc8, od8, .func (PySem.W.fnOf "rounded_up" "rounded_up" (defArgs srounded_up) (defBody srounded_up) (defScope srounded_up) .none kV8 dc8 pm8 an8 cd8 ct8), sl8⟩)
    (c8 : PySem.W.codeIn K cd8 "rounded_up" = true) (k8 : PySem.W.keepIn K (.ref f8) = true)
    (a9 : PySem.W.nsIn K mainGlobals "_law_box" = some (some (.ref f9)))
    (l9 : K.lookup f9 = some ⟨oc9, od9, .func (PySem.W.fnOf "_law_box" "_law_box" (defArgs sL_box) (defBody sL_box) (defScope sL_box) .none kV9 dc9 pm9 an9 cd9 ct9), sl9⟩)
    (c9 : PySem.W.codeIn K cd9 "_law_box" = true) (k9 : PySem.W.keepIn K (.ref f9) = true)
    (a10 : PySem.W.nsIn K mainGlobals "_law_take" = some (some (.ref f10)))
    (l10 : K.lookup f10 = some ⟨oc10, od10, .func (PySem.W.fnOf "_law_take" "_law_take" (defArgs sL_take) (defBody sL_take) (defScope sL_take) .none kV10 dc10 pm10 an10 cd10 ct10), sl10⟩)
    (c10 : PySem.W.codeIn K cd10 "_law_take" = true) (k10 : PySem.W.keepIn K (.ref f10) = true)
    (a11 : PySem.W.nsIn K mainGlobals "_law_folded" = some (some (.ref f11)))
    (l11 : K.lookup f11 = some ⟨oc11, od11, .func (PySem.W.fnOf "_law_folded" "_law_folded" (defArgs sL_folded) (defBody sL_folded) (defScope sL_folded) .none kV11 dc11 pm11 an11 cd11 ct11), sl11⟩)
    (c11 : PySem.W.codeIn K cd11 "_law_folded" = true) (k11 : PySem.W.keepIn K (.ref f11) = true)
    (a12 : PySem.W.nsIn K mainGlobals "_law_is_number" = some (some (.ref f12)))
    (l12 : K.lookup f12 = some ⟨oc12, od12, .func (PySem.W.fnOf "_law_is_number" "_law_is_number" (defArgs sL_is_number) (defBody sL_is_number) (defScope sL_is_number) .none kV12 dc12 pm12 an12 cd12 ct12), sl12⟩)
    (c12 : PySem.W.codeIn K cd12 "_law_is_number" = true) (k12 : PySem.W.keepIn K (.ref f12) = true)
    (a13 : PySem.W.nsIn K mainGlobals "_law_apart" = some (some (.ref f13)))
    (l13 : K.lookup f13 = some ⟨oc13, od13, .func (PySem.W.fnOf "_law_apart" "_law_apart" (defArgs sL_apart) (defBody sL_apart) (defScope sL_apart) .none kV13 dc13 pm13 an13 cd13 ct13), sl13⟩)
    (c13 : PySem.W.codeIn K cd13 "_law_apart" = true) (k13 : PySem.W.keepIn K (.ref f13) = true)
    (a14 : PySem.W.nsIn K mainGlobals "_law_is_fraction" = some (some (.ref f14)))
    (l14 : K.lookup f14 = some ⟨oc14, od14, .func (PySem.W.fnOf "_law_is_fraction" "_law_is_fraction" (defArgs sL_is_fraction) (defBody sL_is_fraction) (defScope sL_is_fraction) .none kV14 dc14 pm14 an14 cd14 ct14), sl14⟩)
    (c14 : PySem.W.codeIn K cd14 "_law_is_fraction" = true) (k14 : PySem.W.keepIn K (.ref f14) = true)
    (a15 : PySem.W.nsIn K mainGlobals "_law_size" = some (some (.ref f15)))
    (l15 : K.lookup f15 = some ⟨oc15, od15, .func (PySem.W.fnOf "_law_size" "_law_size" (defArgs sL_size) (defBody sL_size) (defScope sL_size) .none kV15 dc15 pm15 an15 cd15 ct15), sl15⟩)
    (c15 : PySem.W.codeIn K cd15 "_law_size" = true) (k15 : PySem.W.keepIn K (.ref f15) = true)
    (a16 : PySem.W.nsIn K mainGlobals "_law_right" = some (some (.ref f16)))
    (l16 : K.lookup f16 = some ⟨oc16, od16, .func (PySem.W.fnOf "_law_right" "_law_right" (defArgs sL_right) (defBody sL_right) (defScope sL_right) .none kV16 dc16 pm16 an16 cd16 ct16), sl16⟩)
    (c16 : PySem.W.codeIn K cd16 "_law_right" = true) (k16 : PySem.W.keepIn K (.ref f16) = true)
    (a17 : PySem.W.nsIn K mainGlobals "law" = some (some (.ref f17)))
    (l17 : K.lookup f17 = some ⟨oc17, od17, .func (PySem.W.fnOf "law" "law" (defArgs slaw) (defBody slaw) (defScope slaw) .none kV17 dc17 pm17 an17 cd17 ct17), sl17⟩)
    (c17 : PySem.W.codeIn K cd17 "law" = true) (k17 : PySem.W.keepIn K (.ref f17) = true)
    (z_abs : PySem.W.nsIn K mainGlobals "abs" = some none)
    (z_all : PySem.W.nsIn K mainGlobals "all" = some none)
    (z_bool : PySem.W.nsIn K mainGlobals "bool" = some none)
    (z_divmod : PySem.W.nsIn K mainGlobals "divmod" = some none)
    (z_enumerate : PySem.W.nsIn K mainGlobals "enumerate" = some none)
    (z_int : PySem.W.nsIn K mainGlobals "int" = some none)
    (z_isinstance : PySem.W.nsIn K mainGlobals "isinstance" = some none)
    (z_len : PySem.W.nsIn K mainGlobals "len" = some none)
    (z_list : PySem.W.nsIn K mainGlobals "list" = some none)
    (z_max : PySem.W.nsIn K mainGlobals "max" = some none)
    (z_range : PySem.W.nsIn K mainGlobals "range" = some none)
    (z_tuple : PySem.W.nsIn K mainGlobals "tuple" = some none)
    (z_zip : PySem.W.nsIn K mainGlobals "zip" = some none)
    : ∃ fd : FuncData, (∀ (s : Shared) (v : Value), BindsTo s fd ⟨[v], []⟩ [("_law_script", v)]) ∧
      ∀ base : Heap, K.In base → base.Ns mainGlobals mg → FnG l.prog w K mg base CX0 5 fa fd ["_law_script"] (spLaw K) := by
  have e := hfa.symm.trans (PySem.W.mg_of X G a17)
  cases e
  have E : Bi mg := ⟨PySem.W.mg_none_of X G z_abs, PySem.W.mg_none_of X G z_all, PySem.W.mg_none_of X G z_bool, PySem.W.mg_none_of X G z_divmod, PySem.W.mg_none_of X G z_enumerate, PySem.W.mg_none_of X G z_int, PySem.W.mg_none_of X G z_isinstance, PySem.W.mg_none_of X G z_len, PySem.W.mg_none_of X G z_list, PySem.W.mg_none_of X G z_max, PySem.W.mg_none_of X G z_range, PySem.W.mg_none_of X G z_tuple, PySem.W.mg_none_of X G z_zip⟩
  have F0 := fun_mk (st := sis_number) l0 c0 k0
  have F1 := fun_mk (st := sis_pair) l1 c1 k1
  have F2 := fun_mk (st := scommon_divisor) l2 c2 k2
  have F3 := fun_mk (st := sis_fraction) l3 c3 k3
  have F4 := fun_mk (st := smade) l4 c4 k4
  have F5 := fun_mk (st := splus) l5 c5 k5
  have F6 := fun_mk (st := stimes) l6 c6 k6
  have F7 := fun_mk (st := sis_under) l7 c7 k7
  have F8 := fun_mk (st := srounded_up) l8 c8 k8
  have F9 := fun_mk (st := sL_box) l9 c9 k9
  have F10 := fun_mk (st := sL_take) l10 c10 k10
  have F11 := fun_mk (st := sL_folded) l11 c11 k11
  have F12 := fun_mk (st := sL_is_number) l12 c12 k12
  have F13 := fun_mk (st := sL_apart) l13 c13 k13
  have F14 := fun_mk (st := sL_is_fraction) l14 c14 k14
  have F15 := fun_mk (st := sL_size) l15 c15 k15
  have F16 := fun_mk (st := sL_right) l16 c16 k16
  have F17 := fun_mk (st := slaw) l17 c17 k17
  refine ⟨PySem.W.fnOf "law" "law" (defArgs slaw) (defBody slaw) (defScope slaw) .none kV17 dc17 pm17 an17 cd17 ct17, fun s v => .of_eq rfl, fun base _ _ => ?_⟩
  have d_is_number := def_of F0 (ok_is_number (P := l.prog) (w := w) (base := base) F0 E) (PySem.W.mg_of X G a0) (F0.binds (ps := ["thing"]) fun _ _ _ _ _ _ us hl => match us, hl with | [_], _ => rfl)
  have d_is_pair := def_of F1 (ok_is_pair (P := l.prog) (w := w) (base := base) F1 E) (PySem.W.mg_of X G a1) (F1.binds (ps := ["thing"]) fun _ _ _ _ _ _ us hl => match us, hl with | [_], _ => rfl)
  have d_common_divisor := def_of F2 (ok_common_divisor (P := l.prog) (w := w) (base := base) F2 ) (PySem.W.mg_of X G a2) (F2.binds (ps := ["one", "other"]) fun _ _ _ _ _ _ us hl => match us, hl with | [_, _], _ => rfl)
  have d_is_fraction := def_of F3 (ok_is_fraction (P := l.prog) (w := w) (base := base) F3 E d_is_pair d_is_number d_common_divisor) (PySem.W.mg_of X G a3) (F3.binds (ps := ["thing"]) fun _ _ _ _ _ _ us hl => match us, hl with | [_], _ => rfl)
  have d_made := def_of F4 (ok_made (P := l.prog) (w := w) (base := base) F4 E d_common_divisor) (PySem.W.mg_of X G a4) (F4.binds (ps := ["top", "below"]) fun _ _ _ _ _ _ us hl => match us, hl with | [_, _], _ => rfl)
  have d_plus := def_of F5 (ok_plus (P := l.prog) (w := w) (base := base) F5 d_made) (PySem.W.mg_of X G a5) (F5.binds (ps := ["one", "other"]) fun _ _ _ _ _ _ us hl => match us, hl with | [_, _], _ => rfl)
  have d_times := def_of F6 (ok_times (P := l.prog) (w := w) (base := base) F6 d_made) (PySem.W.mg_of X G a6) (F6.binds (ps := ["one", "other"]) fun _ _ _ _ _ _ us hl => match us, hl with | [_, _], _ => rfl)
  have d_is_under := def_of F7 (ok_is_under (P := l.prog) (w := w) (base := base) F7 ) (PySem.W.mg_of X G a7) (F7.binds (ps := ["one", "other"]) fun _ _ _ _ _ _ us hl => match us, hl with | [_, _], _ => rfl)
  have d_rounded_up := def_of F8 (ok_rounded_up (P := l.prog) (w := w) (base := base) F8 ) (PySem.W.mg_of X G a8) (F8.binds (ps := ["one"]) fun _ _ _ _ _ _ us hl => match us, hl with | [_], _ => rfl)
  have d_L_box := def_of F9 (ok_L_box (P := l.prog) (w := w) (base := base) F9 E) (PySem.W.mg_of X G a9) (F9.binds (ps := ["_law_script", "_law_k"]) fun _ _ _ _ _ _ us hl => match us, hl with | [_, _], _ => rfl)
  have d_L_take := def_of F10 (ok_L_take (P := l.prog) (w := w) (base := base) F10 E) (PySem.W.mg_of X G a10) (F10.binds (ps := ["_law_box_here", "_law_size_here"]) fun _ _ _ _ _ _ us hl => match us, hl with | [_, _], _ => rfl)
  have d_L_folded := def_of F11 (ok_L_folded (P := l.prog) (w := w) (base := base) F11 E) (PySem.W.mg_of X G a11) (F11.binds (ps := ["_law_script", "_law_size_here"]) fun _ _ _ _ _ _ us hl => match us, hl with | [_, _], _ => rfl)
  have d_L_is_number := def_of F12 (ok_L_is_number (P := l.prog) (w := w) (base := base) F12 E) (PySem.W.mg_of X G a12) (F12.binds (ps := ["_law_thing"]) fun _ _ _ _ _ _ us hl => match us, hl with | [_], _ => rfl)
  have d_L_apart := def_of F13 (ok_L_apart (P := l.prog) (w := w) (base := base) F13 E) (PySem.W.mg_of X G a13) (F13.binds (ps := ["_law_one", "_law_other"]) fun _ _ _ _ _ _ us hl => match us, hl with | [_, _], _ => rfl)
  have d_L_is_fraction := def_of F14 (ok_L_is_fraction (P := l.prog) (w := w) (base := base) F14 E d_L_is_number d_L_apart) (PySem.W.mg_of X G a14) (F14.binds (ps := ["_law_thing"]) fun _ _ _ _ _ _ us hl => match us, hl with | [_], _ => rfl)
  have d_L_size := def_of F15 (ok_L_size (P := l.prog) (w := w) (base := base) F15 E d_L_take) (PySem.W.mg_of X G a15) (F15.binds (ps := ["_law_box_here"]) fun _ _ _ _ _ _ us hl => match us, hl with | [_], _ => rfl)
  have d_L_right := def_of F16 (ok_L_right (P := l.prog) (w := w) (base := base) F16 E d_L_take d_L_size d_made d_is_fraction d_L_is_fraction d_L_is_number d_plus d_times d_is_under d_rounded_up) (PySem.W.mg_of X G a16) (F16.binds (ps := ["_law_box_here"]) fun _ _ _ _ _ _ us hl => match us, hl with | [_], _ => rfl)
  exact ok_law F17 E d_L_folded d_L_box d_L_right
end K02
open PySem PySem.W PyProof.Rows
set_option maxHeartbeats 0 in
theorem PySem.Challenge.cw_mashrunnings_k02_fractions_made_holds : PySem.Challenge.rw_mashrunnings_k02_fractions_made.Holds := by
  w_on; o_law; k_head; (case hw => w_witness2)
  k_fill
  refine Ms.walkG (l := PySem.Challenge.rw_mashrunnings_k02_fractions_made) (n := 63) (k := 5) (x := "_law_script") (CX := fun _ => L2.CX0) (sp := fun w => K02.spLaw _) rfl (by decide) rfl ⟨rfl, by decide, by decide⟩
    (fun w h Y => PySem.W.kIn_of Y) ?F (fun _ _ a ns hl _ hS => ⟨a, ns, rfl, hS, hl, fun _ => rfl⟩) (fun _ _ _ _ _ h => h)
  case F =>
    intro w mg fa h KX G hmg
    refine' K02.all_mk KX G hmg ?a0 ?l0 ?c0 ?k0 ?a1 ?l1 ?c1 ?k1 ?a2 ?l2 ?c2 ?k2 ?a3 ?l3 ?c3 ?k3 ?a4 ?l4 ?c4 ?k4 ?a5 ?l5 ?c5 ?k5 ?a6 ?l6 ?c6 ?k6 ?a7 ?l7 ?c7 ?k7 ?a8 ?l8 ?c8 ?k8 ?a9 ?l9 ?c9 ?k9 ?a10 ?l10 ?c10 ?k10 ?a11 ?l11 ?c11 ?k11 ?a12 ?l12 ?c12 ?k12 ?a13 ?l13 ?c13 ?k13 ?a14 ?l14 ?c14 ?k14 ?a15 ?l15 ?c15 ?k15 ?a16 ?l16 ?c16 ?k16 ?a17 ?l17 ?c17 ?k17 ?z_abs ?z_all ?z_bool ?z_divmod ?z_enumerate ?z_int ?z_isinstance ?z_len ?z_list ?z_max ?z_range ?z_tuple ?z_zip
    (case a0 => k_is)
    (case l0 => k_is)
    (case c0 => k_is)
    (case k0 => k_is)
    (case a1 => k_is)
    (case l1 => k_is)
    (case c1 => k_is)
    (case k1 => k_is)
    (case a2 => k_is)
    (case l2 => k_is)
    (case c2 => k_is)
    (case k2 => k_is)
    (case a3 => k_is)
    (case l3 => k_is)
    (case c3 => k_is)
    (case k3 => k_is)
    (case a4 => k_is)
    (case l4 => k_is)
    (case c4 => k_is)
    (case k4 => k_is)
    (case a5 => k_is)
    (case l5 => k_is)
    (case c5 => k_is)
    (case k5 => k_is)
    (case a6 => k_is)
    (case l6 => k_is)
    (case c6 => k_is)
    (case k6 => k_is)
    (case a7 => k_is)
    (case l7 => k_is)
    (case c7 => k_is)
    (case k7 => k_is)
    (case a8 => k_is)
    (case l8 => k_is)
    (case c8 => k_is)
    (case k8 => k_is)
    (case a9 => k_is)
    (case l9 => k_is)
    (case c9 => k_is)
    (case k9 => k_is)
    (case a10 => k_is)
    (case l10 => k_is)
    (case c10 => k_is)
    (case k10 => k_is)
    (case a11 => k_is)
    (case l11 => k_is)
    (case c11 => k_is)
    (case k11 => k_is)
    (case a12 => k_is)
    (case l12 => k_is)
    (case c12 => k_is)
    (case k12 => k_is)
    (case a13 => k_is)
    (case l13 => k_is)
    (case c13 => k_is)
    (case k13 => k_is)
    (case a14 => k_is)
    (case l14 => k_is)
    (case c14 => k_is)
    (case k14 => k_is)
    (case a15 => k_is)
    (case l15 => k_is)
    (case c15 => k_is)
    (case k15 => k_is)
    (case a16 => k_is)
    (case l16 => k_is)
    (case c16 => k_is)
    (case k16 => k_is)
    (case a17 => k_is)
    (case l17 => k_is)
    (case c17 => k_is)
    (case k17 => k_is)
    (case z_abs => k_is)
    (case z_all => k_is)
    (case z_bool => k_is)
    (case z_divmod => k_is)
    (case z_enumerate => k_is)
    (case z_int => k_is)
    (case z_isinstance => k_is)
    (case z_len => k_is)
    (case z_list => k_is)
    (case z_max => k_is)
    (case z_range => k_is)
    (case z_tuple => k_is)
    (case z_zip => k_is)
