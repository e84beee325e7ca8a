import PyProof.Rows.All
import Wide.All
import OpenK.AllK
import Wide.FinOn
import HandS.ForMost
import HandS.Wide
import HandS.Style
import HandS.Flow
import HandS.RaiseMore
import HandS.Defaults
import HandS.MakeKwOnly
import HandS.Evl
import KE.DataCmp
import PySem.Challenge.RW_ownwake_k20_places_ahead
set_option Elab.async false
set_option maxRecDepth 100000
/-! defs that are called where nothing is being shown (repr): the layer's own def rule with that one fact carried along -/
namespace Own
open PySem PySem.Spec PyProof.Rows L2

abbrev Quiet (A : Around) : Prop := A.guards = some []

/-- a def that keeps sp, called where nothing is being shown -/
structure GOk (P : Program) (w : World) (K : PySem.W.Frag) (mg : Str → Option Value) (g0 : Heap) (Z : CXT) (k : Nat)
    (f : Addr) (fd : FuncData) (ps : List Str) (sp : Sp) : Prop where
  len : ∀ vs H Q E, sp vs H Q E → vs.length = ps.length
  run : ∀ (A : Around) (up : List Env) (s : Shared) (H : Hp) (as : Args) (us : List Value) (vs : List V) (Q : VK) (E : XK),
    Quiet A → Room k A → Env0 P w K mg g0 A up s H → BindsTo s fd as (ps.zip us) → Vals vs us → sp vs H Q E →
    codeAny (model P w) A (.call (.ref f) as) (CR Z up P w H s Q E) s

section
variable {P : Program} {w : World} {K : PySem.W.Frag} {mg : Str → Option Value} {g0 : Heap} {Z : CXT} {k j : Nat}
  {f : Addr} {fd : FuncData} {ps : List Str} {sp : Sp}
theorem GOk.of (F : FnOk P w K mg g0 Z k f fd ps sp) : GOk P w K mg g0 Z k f fd ps sp :=
  ⟨F.len, fun A up s H as us vs Q E _ => F.run A up s H as us vs Q E⟩
theorem GOk.mono (F : GOk P w K mg g0 Z j f fd ps sp) (h : j ≤ k) : GOk P w K mg g0 Z k f fd ps sp :=
  ⟨F.len, fun A up s H as us vs Q E q r => F.run A up s H as us vs Q E q (r.mono h)⟩
end

section
variable {X : Cx} {Z : CXT} {k : Nat} {f : Addr} {fd : FuncData} {ps : List Str} {sp : Sp} {dvs : List V} {ds : List Value}
  {E : XK} {x : Str} {p pos : Pos} {e : Expr} {es : List Expr} {t : TA}

theorem goRun {pins : List (Addr × Obj)} {σ : L2.St} {H : Hp} {s : Shared} {Q : VK} {us : List Value} {vs : List V}
    (qt : Quiet X.A) (F : GOk X.prog X.w X.K X.mg X.base Z k f fd ps sp) (room : Room k X.A)
    (bd : Binds X.K fd ps ds) (dv : Vals dvs ds) (px : Passes Z X E) (I : Inv X pins σ H s) (rv : Vals vs us)
    (q : sp (vs ++ dvs) H Q E) : wpAny (model X.prog X.w) X.A (call (.ref f) us) (EP X pins σ Q) X.xe s := by
  have rr : Vals (vs ++ dvs) (us ++ ds) := rv.append dv
  have ll : (us ++ ds).length = ps.length := rr.length.symm.trans (F.len _ _ _ _ q)
  have cc := F.run X.A X.stack s H ⟨us, []⟩ (us ++ ds) (vs ++ dvs) Q E qt room I.env0 (bd s us I.kIn ll) rr q
  refine wpAny_call (codeAny_mono cc ?_)
  intro r s' z
  match r, z with
  | .error e, z => exact px pins σ H s e s' I z
  | .ok (.ret u), z => exact I.after z
  | .ok .next, z => exact z.elim
  | .ok .brk, z => exact z.elim
  | .ok .cont, z => exact z.elim

/-- f(e, ..) -/
theorem pe_callG (qt : Quiet X.A) (F : GOk X.prog X.w X.K X.mg X.base Z k f fd ps sp) (room : Room k X.A) (gl : Gl X x)
    (at_ : X.mg x = some (.ref f)) (kp : PySem.W.keepIn X.K (.ref f) = true) (bd : Binds X.K fd ps ds) (dv : Vals dvs ds)
    (px : Passes Z X E) (pa : PA X (e :: es) t) (nodbg : (x == ("__debug__" : Str)) = false := by decide)
    (st : starEach (e :: es) X.env = (false, eval e X.env) :: starEach es X.env := by rfl)
    (pl : (backTo pos (starEach es X.env)).any (·.1) = false := by rfl) :
    PE X (.Call (.Name x p) (e :: es) [] pos) (tCall sp dvs E t) := by
  constructor
  intro pins s σ H Q I q
  refine wpAny_Call_Name_kw (ld_glob I gl at_ ?_ nodbg)
  refine PySem.W.callWith_K (h₀ := X.base) I.ok.mod.kin kp ?_ st pl
  exact thn (pa.run pos pins s σ H _ I q) fun us s1 ⟨vs, H1, I1, rv, q1⟩ => ⟨I1.kIn, goRun qt F room bd dv px I1 rv q1⟩
end

/-- a def of the text, by its body, where nothing is being shown -/
theorem okG {P : Program} {w : World} {K : PySem.W.Frag} {mg : Str → Option Value} {g0 : Heap} {x qual : Str} {st : Stmt} {f : Addr}
    {fd : FuncData} {N ps : List Str} {k : Nat} {sp : Sp} (F : Fun K x qual st f fd) (S : FnScope N ps (defScope st))
    (len : ∀ vs H Q E, sp vs H Q E → vs.length = ps.length)
    (body : ∀ (cdv : Value) (A : Around) (up : List Env) (s : Shared) (H : Hp) (vs : List V) (Q : VK) (E : XK), Quiet A →
      Room k (A.deeper (envOfC qual (defScope st) s.heap.objs.size f cdv)) → sp vs H Q E →
      ∃ t, PSs (cxOf CX0 P w K mg g0 N qual (defScope st) f cdv A up s H E).nox (defBody st) t ∧
        t { nx := fun _ H' => Q .non H', rt := Q } (start N vs) H) : GOk P w K mg g0 CX0 (k + 1) f fd ps sp := by
  obtain ⟨oc, od, kV, doc, pm, an, cdv, ct, osl, rfl, lk, hcd⟩ := F.ex
  refine ⟨len, ?_⟩
  intro A up s H as us vs Q E qt room e0 bd rv q
  have ll := len _ _ _ _ q
  have kk : K.In s.heap := e0.mod.kin.keeps fun b o e => (e0.bs b o e).1
  have nolim : s.heap.NoLimit := e0.mod.nolimit.keeps fun b o e => (e0.bs b o e).1
  have names : ∀ y ∈ ps.zip us, (defScope st).names.lookup y.1 = some .local ∨
      ((defScope st).names.lookup y.1 = some .cell ∧
        ((cellsFrom (s.heap.objs.size + 1) (defScope st).names []).lookup y.1).isSome = true) := by
    rintro ⟨n, v⟩ hy
    exact (S.par n (List.of_mem_zip hy).1).imp id fun z => ⟨z, PySem.W.cellsFrom_some _ _ _ (.inl z)⟩
  refine codeAny_call_function room.depth (kk _ _ lk) rfl S.co S.gen rfl (PySem.W.codeRec_of kk hcd) (bd _ _ _ _ ?_)
  refine wpAny_newFunctionEnv_cells S.kind names ?_
  intro env he s1 ic
  subst he
  refine ⟨nolim.keeps ic.toInCall.keep, codeAny_func ?_⟩
  obtain ⟨t, pt, rd⟩ := body cdv A up s H vs Q E qt (room.deeper _) q
  have I := inv_start (CX := CX0) (E := E) S room.hd e0 ll rv ic
  have run := (PSs.nox pt).run [] s1 (start N vs) H _ I rd
  refine wpAny_mono run ?_ fun e s' z => z
  intro fl s' z
  have fin : ∀ {σ' : L2.St} {H' : Hp} {v : V} {u : Value},
      Inv (cxOf CX0 P w K mg g0 N qual (defScope st) f cdv A up s H E) [] σ' H' s' → RelV v u → Q v H' → CE up P w H s Q u s' := by
    intro σ' H' v u J rr qq
    exact ⟨v, H', J.os, J.bare, J.base, J.hok, rr, qq⟩
  match fl, z with
  | .ret u, ⟨v, σ', H', J, rr, qq⟩ => exact fin J rr qq
  | .next, ⟨σ', H', J, qq⟩ => exact fin (v := V.non) (u := Value.none) J rfl qq
  | .brk, ⟨_, _, _, z⟩ => exact z.elim
  | .cont, ⟨_, _, _, z⟩ => exact z.elim

theorem quiet_deeper {A : Around} {env : Env} (q : Quiet A) : Quiet (A.deeper env) := q
theorem quiet_caller : Quiet callerA := rfl

/-! ### repr of data -/
mutual
theorem dp_nodict {K : PySem.W.Frag} {H : Hp} : ∀ {d : PyData} {v : V}, Dp K H v d → d.hasDict = false
  | .none, _, _ => rfl
  | .bool _, _, _ => rfl
  | .int _, _, _ => rfl
  | .str _, _, _ => rfl
  | .list _, _, .lst _ a => dps_nodict a
  | .tuple _, _, .tup _ a => dps_nodict a
theorem dps_nodict {K : PySem.W.Frag} {H : Hp} : ∀ {ds : List PyData} {vs : List V}, DpAll K H vs ds → PyData.hasDictAll ds = false
  | [], _, _ => rfl
  | _ :: _, _, .cons a b => by
    show (_ || _) = false
    rw [dp_nodict a, dps_nodict b]
    rfl
end
/-- repr(x), x data -/
def rRepr (K : PySem.W.Frag) : List V → Hp → VK → Prop := fun xs H Q =>
  ∃ x d, xs = [x] ∧ Dp K H x d ∧ d.showable = true ∧ d.depth ≤ 60 ∧ d.shown.length ≤ sizeLine ∧ Q (.str d.shown) H
theorem call_repr {X : Cx} (qt : Quiet X.A) (hu : X.A.units + 64 < cLine) : CallR X (.builtin "repr") (rRepr X.K) := by
  intro pins s σ H xs us Q I rv h
  obtain ⟨x, d, rfl, hd, hs, hz, hl, q⟩ := h
  obtain ⟨u, rfl, rx⟩ : ∃ u, us = [u] ∧ RelV x u := by
    cases rv with
    | cons a b =>
      cases b
      exact ⟨_, rfl, a⟩
  obtain ⟨as, rd⟩ := Dp.reads I d x u hd rx
  have nd := dp_nodict hd
  cases hd with
  | non =>
    cases rx
    exact P.repr_of_none ⟨.str "None", H, I.tok _, ⟨_, rfl⟩, q⟩
  | bl b =>
    cases rx
    exact P.repr_of_bool ⟨.str (if b then "True" else "False"), H, I.tok _, ⟨_, rfl⟩, q⟩
  | int i =>
    obtain ⟨t, rfl⟩ := rx
    refine P.repr_of_int ?_ ⟨.str (toString i), H, I.tok _, ⟨_, rfl⟩, q⟩
    simpa [PyData.showable] using hs
  | str y =>
    obtain ⟨t, rfl⟩ := rx
    exact P.repr_of_str ⟨.str (reprText y), H, I.tok _, ⟨_, rfl⟩, q⟩ hl
  | lst _ _ =>
    cases rx
    exact repr_of_reads' rd hs (fun z => by rw [nd] at z; cases z) qt (by omega) (fun _ _ z => z)
      (fun h' w tk k => ⟨.str _, H, I.kept k, ⟨_, rfl⟩, q⟩) hl
  | tup _ _ =>
    cases rx
    exact repr_of_reads' rd hs (fun z => by rw [nd] at z; cases z) qt (by omega) (fun _ _ z => z)
      (fun h' w tk k => ⟨.str _, H, I.kept k, ⟨_, rfl⟩, q⟩) hl

/-! ### a < b, a > b of alike data -/
def rLtD (K : PySem.W.Frag) : R2 := fun x y H Q => ∃ d e, Dp K H x d ∧ Dp K H y e ∧ PySem.W.alike d e = true ∧ d ≠ .none ∧ d.depth ≤ 60 ∧ Q (.bl (PySem.W.dataLt d e)) H
def rGtD (K : PySem.W.Frag) : R2 := fun x y H Q => ∃ d e, Dp K H x d ∧ Dp K H y e ∧ PySem.W.alike d e = true ∧ d ≠ .none ∧ d.depth ≤ 60 ∧ Q (.bl (PySem.W.dataLt e d)) H
theorem op_ltD {X : Cx} (hu : X.A.units + 64 < cLine) : OpR X (compareOp .Lt) (rLtD X.K) := by
  intro pins s σ H x y v u Q I rx ry h
  obtain ⟨d, e, hd, he, al, nn, dp, q⟩ := h
  obtain ⟨as, r1⟩ := Dp.reads I d x v hd rx
  obtain ⟨bs, r2⟩ := Dp.reads I e y u he ry
  exact PySem.W.lt_data r1 r2 al nn (by omega) ⟨.bl _, H, I, rfl, q⟩
theorem op_gtD {X : Cx} (hu : X.A.units + 64 < cLine) : OpR X (compareOp .Gt) (rGtD X.K) := by
  intro pins s σ H x y v u Q I rx ry h
  obtain ⟨d, e, hd, he, al, nn, dp, q⟩ := h
  obtain ⟨as, r1⟩ := Dp.reads I d x v hd rx
  obtain ⟨bs, r2⟩ := Dp.reads I e y u he ry
  exact PySem.W.gt_data r1 r2 al nn (by omega) ⟨.bl _, H, I, rfl, q⟩
end Own

set_option Elab.async false
set_option maxRecDepth 100000
/-! the law's call, from a promise that is kept where nothing is being shown -/
namespace Own
open PySem PySem.Spec PyProof.Rows L2

/-- the wish of the law: True -/
abbrev qTrue : VK := fun v _ => v = .bl true

theorem lawG {P : Program} {w : World} {K : PySem.W.Frag} {mg mb : Str → Option Value} {k : Nat} {fa a : Addr} {fd : FuncData}
    {x : Str} {sp : Sp} {s : Shared} {vs : List Value} {ns : List Int} (kk : K.In s.heap) (gm : s.heap.Ns mainGlobals mg)
    (gb : s.heap.Ns builtinsNs mb) (gbb : ∀ y : Str, y ≠ "__name__" → mb y = bootBuiltins y) (nolim : s.heap.NoLimit)
    (nog : s.gens = #[]) (at_ : s.heap.get? a = some { cls := .type "list", data := .seq vs.toArray }) (hin : IntsAre vs ns)
    (small : ns.length ≤ sizeLine) (room : Room k callerA)
    (F : ∀ g0 : Heap, K.In g0 → g0.Ns mainGlobals mg → GOk P w K mg g0 CX0 k fa fd [x] sp)
    (bd : ∀ (s : Shared) (u : Value), BindsTo s fd ⟨[u], []⟩ [(x, u)])
    (sp0 : ∀ H : Hp, Only H → SqL K H a (ns.map V.int) → sp [.ref a] H qTrue fun _ _ _ => False) :
    codeAny (model P w) callerA (.call (.ref fa) ⟨[.ref a], []⟩)
      (fun r s' => r = .ok (.ret (.bool true)) ∧ OldK s.heap s'.heap ∧ s'.os = s.os ∧ AllBare s'.gens) s := by
  have rv := vals_ints hin
  have nv : vs.length = ns.length := hin.length
  -- whatever the abstract heap says of the script, it says nothing else
  have main : ∀ H : Hp, (∀ b, H b ≠ none → b = a) → Only H → SqL K H a (ns.map V.int) → HOk P w H s.heap → (H a ≠ none → K.lookup a = none) →
      codeAny (model P w) callerA (.call (.ref fa) ⟨[.ref a], []⟩)
        (fun r s' => r = .ok (.ret (.bool true)) ∧ OldK s.heap s'.heap ∧ s'.os = s.os ∧ AllBare s'.gens) s := by
    intro H onlyA only sq hok notK
    have dictNone : ∀ {b : Addr} {o : Obj} {es : Array DictEntry} {n : Nat}, s.heap.get? b = some o → o.data = .dict es n → H b = none := by
      intro b o es n ho hd
      match hb : H b with
      | none => rfl
      | some u =>
        obtain rfl := onlyA b (by rw [hb]; exact fun z => nomatch z)
        rw [at_] at ho
        cases ho
        cases hd
    have ns0 : ∀ {b : Addr} {m : Str → Option Value}, s.heap.Ns b m → (hidT s.heap H).Ns b m := by
      rintro b m ⟨o, es, n, ho, hd, r⟩
      exact ⟨o, es, n, hidT_get ho (dictNone ho hd), hd, r⟩
    have k0 : K.In (hidT s.heap H) := by
      intro b o hb
      refine hidT_get (kk b o hb) ?_
      match hH : H b with
      | none => rfl
      | some u =>
        obtain rfl := onlyA b (by rw [hH]; exact fun z => nomatch z)
        rw [notK (by rw [hH]; exact fun z => nomatch z)] at hb
        cases hb
    have md : Mod K mg (hidT s.heap H) :=
      { kin := k0, glob := ns0 gm, blt := ⟨mb, ns0 gb, gbb⟩, nolimit := by obtain ⟨mc, n1, n2⟩ := nolim; exact ⟨mc, ns0 n1, n2⟩ }
    have e0 : Env0 P w K mg (hidT s.heap H) callerA [] s H :=
      { frames := rfl, mod := md, bs := fun b o e => of_hidT e, bsz := Nat.le_of_eq (hidT_size _ _), funs := trivial,
        frf := fun b hb => absurd (show b ∈ ([] : List Addr) from hb) (by simp), hok := hok, bare := .of_eq nog }
    have cc := (F _ k0 (ns0 gm)).run callerA [] s H ⟨[.ref a], []⟩ [.ref a] [.ref a] qTrue (fun _ _ _ => False) quiet_caller room e0
      (bd s (.ref a)) (.cons rfl .nil) (sp0 H only sq)
    refine codeAny_mono cc ?_
    intro r s' z
    match r, z with
    | .error e, z => exact z.elim
    | .ok .next, z => exact z.elim
    | .ok .brk, z => exact z.elim
    | .ok .cont, z => exact z.elim
    | .ok (.ret u), ⟨v, H', os, bare, un, hok', rr, q⟩ =>
      have q' : v = V.bl true := q
      subst q'
      obtain rfl : u = Value.bool true := rr
      refine ⟨rfl, OldK.of_keep ?_, os, bare⟩
      intro b o ho
      have nf : b ∉ frs ([] : List Env) := fun z => absurd (show b ∈ ([] : List Addr) from z) (by simp)
      match hb : H b with
      | none => exact un.keep b o ho hb nf (by simp)
      | some u =>
        rcases only b with z | ⟨ob, xs, z⟩
        · rw [hb] at z
          cases z
        · have z2 := un.frzs b ob _ z
          have p1 := (hok b _ z).1
          have p2 := (hok' b _ z2).1
          rw [ho] at p1
          cases p1
          exact p2
  match hk : K.lookup a with
  | some o =>
    have e := kk a o hk
    rw [at_] at e
    cases e
    refine main (fun _ => none) (fun b z => absurd rfl z) (fun b => .inl rfl) ?_ (fun b u z => ?_) fun z => absurd rfl z
    · refine .inr ⟨_, vs.toArray, _, hk, rfl, rfl, rfl, ?_, by simpa using rv⟩
      rw [List.size_toArray, nv]
      exact small
    · have z' : (none : Option HO) = some u := z
      cases z'
  | none =>
    let o1 : HO := .frz { cls := .type "list", data := .seq vs.toArray } (.lst (ns.map V.int))
    have ya : (fun b => if b = a then some o1 else none : Hp) a = some o1 := if_pos rfl
    refine main (fun b => if b = a then some o1 else none) (fun b z => ?_) (fun b => ?_) (.inl (.inr ⟨_, ya⟩)) (fun b u z => ?_) fun _ => hk
    · by_cases hb : b = a
      · exact hb
      · exact absurd (if_neg hb) z
    · by_cases hb : b = a
      · exact .inr ⟨_, _, if_pos hb⟩
      · exact .inl (if_neg hb)
    · by_cases hb : b = a
      · have z' := (if_pos hb).symm.trans z
        cases z'
        subst hb
        refine ⟨at_, ?_, vs, _, rv, at_⟩
        rw [List.length_map]
        exact small
      · have z' := (if_neg hb).symm.trans z
        cases z'

theorem walkG {l : PySem.W.OpenLaw} {n k : Nat} {q : Program} {loose : List Str} {XP : (Str → Option Value) → Heap → Prop}
    {YP : World → Heap → Prop} {d : DefRec} {K : Params → PySem.W.Frag} {sp : World → Sp} {x : Str}
    (hn : l.most = some n) (hn2 : n ≤ sizeLine) (hdf : d.params.defaults = []) (room : Room k callerA)
    (hY : ∀ (w : World) (h : Heap), YP w h → (K w.params).In h)
    (F : ∀ (w : World) (mg : Str → Option Value) (fa : Addr) (h : Heap), (K w.params).In h → h.Ns mainGlobals mg → mg d.name = some (.ref fa) →
      ∃ fd : FuncData, (∀ (s : Shared) (u : Value), BindsTo s fd ⟨[u], []⟩ [(x, u)]) ∧
        ∀ g0 : Heap, (K w.params).In g0 → g0.Ns mainGlobals mg → GOk l.prog w (K w.params) mg g0 CX0 k fa fd [x] (sp w))
    (sp0 : ∀ (w : World) (H : Hp) (a : Addr) (ns : List Int), ns.length ≤ n → Only H → SqL (K w.params) H a (ns.map V.int) →
      sp w [.ref a] H qTrue fun _ _ _ => False) :
    PySem.W.WalkO q loose XP YP l.row.toRowW d [] (fun f vs => PySem.call f vs) := by
  refine Att.attach_call hn hdf ?_
  intro w s0 s mg mb fa o pm cd doc a vs ns G Y ho hd hcd hmg hobj hin hlen hg
  have kk := hY w _ Y
  obtain ⟨fd, bd, FF⟩ := F w mg fa _ kk G.T.g hmg
  exact lawG kk G.T.g G.T.b G.T.builtins G.T.nolimit hg hobj hin (Nat.le_trans hlen hn2) room FF bd fun H hO hS => sp0 w H a ns hlen hO hS
end Own

set_option Elab.async false
set_option maxRecDepth 100000
/-! calls by name, readings step by step, heaps that grow -/
namespace Own
open PySem PySem.Spec PyProof.Rows L2

/-! ### a def that stands at a name -/
structure Cal (P : Program) (w : World) (K : PySem.W.Frag) (mg : Str → Option Value) (g0 : Heap) (x : Str) (k : Nat) (ps : List Str) (sp : Sp) : Prop where
  ex : ∃ (f : Addr) (fd : FuncData), GOk P w K mg g0 CX0 k f fd ps sp ∧ Binds K fd ps [] ∧ mg x = some (.ref f) ∧ PySem.W.keepIn K (.ref f) = true
/-- .. by keywords: n values, then those of the names ks -/
structure CalK (P : Program) (w : World) (K : PySem.W.Frag) (mg : Str → Option Value) (g0 : Heap) (x : Str) (k : Nat) (ps : List Str) (n : Nat) (ks : List Str) (gV : List V → List V → List V) (sp : Sp) : Prop where
  ex : ∃ (f : Addr) (fd : FuncData) (g : List Value → List Value → List Value), GOk P w K mg g0 CX0 k f fd ps sp ∧ KBn K fd ps n ks g gV ∧ mg x = some (.ref f) ∧ PySem.W.keepIn K (.ref f) = true
section
variable {X : Cx} {k n : Nat} {ps ks : List Str} {sp : Sp} {x : Str} {p pos : Pos} {e : Expr} {es : List Expr} {kws : List Keyword} {t tk : TA} {gV : List V → List V → List V}
theorem pe_c (C : Cal X.prog X.w X.K X.mg X.base x k ps sp) (qt : Quiet X.A) (room : Room k X.A) (pa : PA X (e :: es) t) (gl : Gl X x := by rfl)
    (nodbg : (x == ("__debug__" : Str)) = false := by decide)
    (st : starEach (e :: es) X.env = (false, eval e X.env) :: starEach es X.env := by rfl)
    (pl : (backTo pos (starEach es X.env)).any (·.1) = false := by rfl) :
    PE X (.Call (.Name x p) (e :: es) [] pos) (tCall sp [] E0 t) := by
  obtain ⟨f, fd, G, bd, at_, kp⟩ := C.ex
  exact pe_callG qt G room gl at_ kp bd .nil pass0 pa nodbg st pl
theorem goRunK {pins : List (Addr × Obj)} {σ : L2.St} {H : Hp} {s : Shared} {Q : VK} {us ws : List Value} {vs zs : List V}
    (C : CalK X.prog X.w X.K X.mg X.base x k ps n ks gV sp) (qt : Quiet X.A) (room : Room k X.A) (I : Inv X pins σ H s) (rv : Vals vs us) (rz : Vals zs ws)
    (l1 : vs.length = n) (l2 : zs.length = ks.length) (q : sp (gV vs zs) H Q E0) (f : Addr) (at_ : X.mg x = some (.ref f)) :
    wpAny (model X.prog X.w) X.A (call (.ref f) us (ks.zip ws)) (EP X pins σ Q) X.xe s := by
  obtain ⟨f', fd, g, G, bd, at', kp⟩ := C.ex
  rw [at_] at at'
  cases at'
  have rr := bd.rel rv rz
  have cc := G.run X.A X.stack s H ⟨us, ks.zip ws⟩ (g us ws) (gV vs zs) Q E0 qt room I.env0
    (bd.to s us ws I.kIn (rv.length.symm.trans l1) (rz.length.symm.trans l2)) rr q
  refine wpAny_call (codeAny_mono cc ?_)
  intro r s' z
  match r, z with
  | .error e, z => exact z.elim
  | .ok (.ret u), z => exact I.after z
  | .ok .next, z => exact z.elim
  | .ok .brk, z => exact z.elim
  | .ok .cont, z => exact z.elim
def tCK (n m : Nat) (sp : Sp) (gV : List V → List V → List V) (t tk : TA) : TE := fun σ H Q =>
  t σ H fun vs H1 => tk σ H1 fun zs H2 => vs.length = n ∧ zs.length = m ∧ sp (gV vs zs) H2 Q E0
/-- f(k = v, ..) -/
theorem pe_ck0 (C : CalK X.prog X.w X.K X.mg X.base x k ps 0 ks gV sp) (qt : Quiet X.A) (room : Room k X.A) (pk : PK X kws tk) (gl : Gl X x := by rfl)
    (all : (backToKw pos (keywordEach kws X.env)).all (·.1.isSome) = true := by rfl) (nm : (backToKw pos (keywordEach kws X.env)).filterMap (·.1) = ks := by rfl)
    (nodbg : (x == ("__debug__" : Str)) = false := by decide)
    (pl : ((backTo pos (starEach [] X.env)).any (·.1) || (backToKw pos (keywordEach kws X.env)).any (·.1.isNone)) = false := by rfl) :
    PE X (.Call (.Name x p) [] kws pos) (tCK 0 ks.length sp gV tNil tk) := by
  obtain ⟨f, fd, g, G, bd, at_, kp⟩ := C.ex
  constructor
  intro pins s σ H Q I q
  refine wpAny_Call_Name_kw (ld_glob I gl at_ ?_ nodbg)
  refine PySem.W.callWith_KW0 (h₀ := X.base) I.ok.mod.kin kp all ?_ pl
  refine thn (pk.run pos pins s σ H _ I q) fun ws s2 ⟨zs, H2, I2, rz, l1, l2, q2⟩ => ⟨I2.kIn, ?_⟩
  rw [nm]
  exact goRunK C qt room I2 .nil rz rfl l2 q2 f at_
/-- f(e, .., k = v, ..) -/
theorem pe_ck (C : CalK X.prog X.w X.K X.mg X.base x k ps n ks gV sp) (qt : Quiet X.A) (room : Room k X.A) (pa : PA X (e :: es) t) (pk : PK X kws tk) (gl : Gl X x := by rfl)
    (all : (backToKw pos (keywordEach kws X.env)).all (·.1.isSome) = true := by rfl) (nm : (backToKw pos (keywordEach kws X.env)).filterMap (·.1) = ks := by rfl)
    (nodbg : (x == ("__debug__" : Str)) = false := by decide) (st : starEach (e :: es) X.env = (false, eval e X.env) :: starEach es X.env := by rfl)
    (pl : ((backTo pos (starEach (e :: es) X.env)).any (·.1) || (backToKw pos (keywordEach kws X.env)).any (·.1.isNone)) = false := by rfl) :
    PE X (.Call (.Name x p) (e :: es) kws pos) (tCK n ks.length sp gV t tk) := by
  obtain ⟨f, fd, g, G, bd, at_, kp⟩ := C.ex
  constructor
  intro pins s σ H Q I q
  refine wpAny_Call_Name_kw (ld_glob I gl at_ ?_ nodbg)
  refine PySem.W.callWith_KW (h₀ := X.base) I.ok.mod.kin kp all (thn (pa.run pos pins s σ H _ I q) fun us s1 ⟨vs, H1, I1, rv, q1⟩ => ?_) pl st
  refine thn (pk.run pos pins s1 σ H1 _ I1 q1) fun ws s2 ⟨zs, H2, I2, rz, l1, l2, q2⟩ => ⟨I2.kIn, ?_⟩
  rw [nm]
  exact goRunK C qt room I2 rv rz l1 l2 q2 f at_
end

/-! ### heaps that grow; objects at M may change -/
def Ext (M : Addr → Prop) (H H' : Hp) : Prop := (∀ a xs, H a = some (.tup xs) → H' a = some (.tup xs)) ∧ ∀ a o, ¬ M a → H a = some o → H' a = some o
theorem Same.ext {M : Addr → Prop} {H H' : Hp} (s : Same H H') : Ext M H H' := ⟨fun a _ h => s a _ h, fun a o _ h => s a o h⟩
theorem Ext.refl {M : Addr → Prop} (H : Hp) : Ext M H H := ⟨fun _ _ h => h, fun _ _ _ h => h⟩
theorem Ext.trans {M : Addr → Prop} {H H1 H2 : Hp} (a : Ext M H H1) (b : Ext M H1 H2) : Ext M H H2 :=
  ⟨fun x xs h => b.1 x xs (a.1 x xs h), fun x o n h => b.2 x o n (a.2 x o n h)⟩
theorem Ext.mono {M N : Addr → Prop} {H H' : Hp} (e : Ext M H H') (h : ∀ a, M a → N a) : Ext N H H' := ⟨e.1, fun a o n => e.2 a o fun z => n (h a z)⟩
theorem Ext.same {H H' : Hp} (e : Ext (fun _ => False) H H') : Same H H' := fun a o h => e.2 a o (fun z => z) h
theorem Ext.tup {M : Addr → Prop} {H H' : Hp} (e : Ext M H H') {a : Addr} {xs : List V} (h : H a = some (.tup xs)) : H' a = some (.tup xs) := e.1 a xs h
theorem Same.upd {H : Hp} {p : Addr} {o : HO} (h : H p = none) : Same H (upd H p o) := fun a u e => by
  rw [upd_ne (ne_of_none e h)]
  exact e
theorem ext_new {M : Addr → Prop} {H : Hp} {p : Addr} {o : HO} (h : H p = none) : Ext M H (L2.upd H p o) := Same.ext (Same.upd h)
theorem Ext.upd {M : Addr → Prop} {H : Hp} {p : Addr} {o u : HO} (h : H p = some u) (m : M p) (nt : ∀ xs, u ≠ .tup xs) : Ext M H (upd H p o) := by
  refine ⟨fun a xs e => ?_, fun a v n e => ?_⟩
  · rw [upd_ne fun z => ?_]
    · exact e
    · subst z
      rw [h] at e
      cases e
      exact nt _ rfl
  · rw [upd_ne fun z => ?_]
    · exact e
    · subst z
      exact n m
theorem SqT.ext {M : Addr → Prop} {K : PySem.W.Frag} {H H' : Hp} (e : Ext M H H') {a : Addr} {xs : List V} (h : SqT K H a xs) (m : ¬ M a) : SqT K H' a xs := by
  rcases h with (h | ⟨o, h⟩) | h
  · exact .inl (.inl (e.1 _ _ h))
  · exact .inl (.inr ⟨o, e.2 _ _ m h⟩)
  · exact .inr h
theorem SqL.ext {M : Addr → Prop} {K : PySem.W.Frag} {H H' : Hp} (e : Ext M H H') {a : Addr} {xs : List V} (h : SqL K H a xs) (m : ¬ M a) : SqL K H' a xs := by
  rcases h with (h | ⟨o, h⟩) | h
  · exact .inl (.inl (e.2 _ _ m h))
  · exact .inl (.inr ⟨o, e.2 _ _ m h⟩)
  · exact .inr h

/-! ### the readings, one step at a time -/
section
variable {t u : TS} {D : Ends} {σ : L2.St} {H : Hp} {te ta tb : TE} {i : Nat} {Q : VK} {v : V} {tt tu : TT} {QB : Bool → Hp → Prop} {r : R2} {tl tr : TA} {QA : List V → Hp → Prop}
theorem k_seq (h : t { D with nx := u D } σ H) : tSeq t u D σ H := h
theorem k_asg {g : TG} (h : te σ H fun x H1 => g x σ H1 D.nx) : tAsg te g D σ H := h
theorem k_gN {QS : L2.St → Hp → Prop} (h : QS (σ.set i (some v)) H) : gName i v σ H QS := h
theorem k_gS {QS : L2.St → Hp → Prop} {ts : TSet} (h : ta σ H fun o H1 => tb σ H1 fun x H2 => ts o x v H2 fun H3 => QS σ H3) : gSub ta tb ts v σ H QS := h
theorem k_gNil {QS : L2.St → Hp → Prop} (h : QS σ H) : gNil [] σ H QS := ⟨rfl, h⟩
theorem k_gCons {QS : L2.St → Hp → Prop} {g : TG} {gs : TGs} {vs : List V} (h : g v σ H fun σ' H' => gs vs σ' H' QS) : gCons g gs (v :: vs) σ H QS := ⟨v, vs, rfl, h⟩
theorem k_gTup {QS : L2.St → Hp → Prop} {K : PySem.W.Frag} {n : Nat} {gs : TGs} {a : Addr} {xs : List V} (e : SqT K H a xs) (l : xs.length = n) (h : gs xs σ H QS) : gTup K n gs (.ref a) σ H QS := ⟨a, xs, rfl, e, l, h⟩
theorem k_ret (h : te σ H D.rt) : tRet te D σ H := h
theorem k_drop (h : te σ H fun _ H' => D.nx σ H') : tDrop te D σ H := h
theorem k_next (h : D.nx σ H) : tNext D σ H := h
theorem k_ifS (h : tt σ H fun b H' => if b = true then t D σ H' else u D σ H') : tIfS tt t u D σ H := h
theorem k_var (e : σ[i]? = some (some v)) (h : Q v H) : tVar i σ H Q := ⟨v, e, h⟩
theorem k_c (h : Q v H) : tC v σ H Q := h
theorem k_op (h : ta σ H fun x H1 => tb σ H1 fun y H2 => r x y H2 Q) : tOp r ta tb σ H Q := h
theorem k_un {ru : V → Hp → VK → Prop} (h : ta σ H fun x H1 => ru x H1 Q) : tUn ru ta σ H Q := h
theorem k_test (h : te σ H fun x H' => ∃ k, x = .bl k ∧ QB k H') : tTest te σ H QB := h
theorem k_B (h : te σ H fun x H' => ∃ k, x = .bl k ∧ QB k H') : tB te σ H QB := h
theorem k_and (h : tt σ H fun c H1 => if c = true then tu σ H1 QB else QB false H1) : tAnd tt tu σ H QB := h
theorem k_or (h : tt σ H fun c H1 => if c = true then QB true H1 else tu σ H1 QB) : tOr tt tu σ H QB := h
theorem k_not (h : tt σ H fun c H1 => QB (!c) H1) : tNot tt σ H QB := h
theorem k_andV (h : ta σ H fun x H1 => ∃ c, x = .bl c ∧ if c = true then tb σ H1 Q else Q (.bl false) H1) : tAndV ta tb σ H Q := h
theorem k_orV (h : ta σ H fun x H1 => ∃ c, x = .bl c ∧ if c = true then Q (.bl true) H1 else tb σ H1 Q) : tOrV ta tb σ H Q := h
theorem k_notV (h : ta σ H fun x H1 => ∃ c, x = .bl c ∧ Q (.bl (!c)) H1) : tNotV ta σ H Q := h
theorem k_if (h : tt σ H fun c H1 => if c = true then ta σ H1 Q else tb σ H1 Q) : tIf tt ta tb σ H Q := h
theorem k_nil (h : QA [] H) : tNil σ H QA := h
theorem k_cons (h : te σ H fun x H1 => tl σ H1 fun xs H2 => QA (x :: xs) H2) : tCons te tl σ H QA := h
theorem k_tup (h : tl σ H fun xs H1 => xs.length ≤ sizeLine ∧ ∀ p, H1 p = none → Q (.ref p) (upd H1 p (.tup xs))) : tTup tl σ H Q := h
theorem k_lst (h : tl σ H fun xs H1 => xs.length ≤ sizeLine ∧ ∀ p, H1 p = none → Q (.ref p) (upd H1 p (.lst xs))) : tLst tl σ H Q := h
theorem k_call {sp : Sp} {dvs : List V} {E : XK} (h : tl σ H fun vs H1 => sp (vs ++ dvs) H1 Q E) : tCall sp dvs E tl σ H Q := h
theorem k_cb {rc : List V → Hp → VK → Prop} (h : tl σ H fun vs H1 => rc vs H1 Q) : tCB rc tl σ H Q := h
theorem k_ck {n m : Nat} {sp : Sp} {gV : List V → List V → List V} {tk : TA} (h : tl σ H fun vs H1 => tk σ H1 fun zs H2 => vs.length = n ∧ zs.length = m ∧ sp (gV vs zs) H2 Q E0) : tCK n m sp gV tl tk σ H Q := h
theorem k_par {j : Nat} (h : tl σ H fun vs H1 => ∃ v w, vs = [v, w] ∧ D.nx ((σ.set i (some v)).set j (some w)) H1) : tPar i j tl D σ H := h
theorem k_par1 {j : Nat} {v w : V} (h : D.nx ((σ.set i (some v)).set j (some w)) H) : ∃ v' w', [v, w] = [v', w'] ∧ D.nx ((σ.set i (some v')).set j (some w')) H := ⟨v, w, rfl, h⟩
theorem k_tr {b : Bool} {R : Bool → Prop} (h : R b) : ∃ k, V.bl b = .bl k ∧ R k := ⟨b, rfl, h⟩
theorem k_ite {b : Bool} {A B : Prop} (h1 : b = true → A) (h2 : b = false → B) : if b = true then A else B := by
  cases b with
  | true => exact iteT (h1 rfl)
  | false => exact iteF (h2 rfl)
theorem k_iteD {c : Prop} [Decidable c] {A B : Prop} (h1 : c → A) (h2 : ¬ c → B) : if decide c = true then A else B :=
  k_ite (fun z => h1 (of_decide_eq_true z)) fun z => h2 (of_decide_eq_false z)
theorem k_for {wi : TI} {g : TG} {tb : TS} (h : wi σ H fun J H1 => ∃ W : Nat → Nat → L2.St → Hp → Prop, (∃ m, W 0 m σ H1) ∧ ∀ i m σ H, W i m σ H →
    (J.stop i H ∧ D.nx σ H) ∨ (J.go i H ∧ ∃ N : L2.St → Hp → Prop, (∀ σ' H', N σ' H' → ∃ m', m' < m ∧ W (i + 1) m' σ' H') ∧ ∀ x H', J.yld i H x H' → g x σ H' fun σ2 H2 => tb { D with nx := N, ct := N, bk := D.nx } σ2 H2)) : tFor wi g tb D σ H := h
theorem k_iL {K : PySem.W.Frag} {R : It → Hp → Prop} (h : te σ H fun x H1 => ∃ a, x = .ref a ∧ (∃ xs, SqL K H1 a xs) ∧ R (Itl K a) H1) : iList K te σ H R := h
theorem k_iT {K : PySem.W.Frag} {R : It → Hp → Prop} (h : te σ H fun x H1 => ∃ a, x = .ref a ∧ (∃ xs, SqT K H1 a xs) ∧ R (Itt K a) H1) : iTup K te σ H R := h
theorem k_iR1 {R : It → Hp → Prop} (h : tl σ H fun vs H1 => ∃ j, vs = [.int j] ∧ -(2 ^ 62) ≤ j ∧ j < 2 ^ 62 ∧ R (Itr 0 j.toNat) H1) : iRng1 tl σ H R := h
theorem k_iR1i {R : It → Hp → Prop} {j : Int} (l : -(2 ^ 62) ≤ j ∧ j < 2 ^ 62) (h : R (Itr 0 j.toNat) H) : ∃ i, [V.int j] = [.int i] ∧ -(2 ^ 62) ≤ i ∧ i < 2 ^ 62 ∧ R (Itr 0 i.toNat) H := ⟨j, rfl, l.1, l.2, h⟩
theorem k_ble {n m : Nat} (h : Nat.ble n m = true) : n ≤ m := Nat.le_of_ble_eq_true h
theorem k_sz {n : Nat} (h : Nat.ble n 100000 = true) : n ≤ sizeLine := Nat.le_trans (Nat.le_of_ble_eq_true h) (by decide)
theorem k_rI0 {g : Int → Int → V} {i j : Int} (h : Q (g i j) H) : rI0 g (.int i) (.int j) H Q := ⟨i, j, rfl, rfl, h⟩
theorem k_rI {C : Int → Int → Prop} {g : Int → Int → V} {i j : Int} (c : C i j) (h : Q (g i j) H) : rI C g (.int i) (.int j) H Q := ⟨i, j, rfl, rfl, c, h⟩
theorem k_rU {g : Int → V} {i : Int} (h : Q (g i) H) : rU g (.int i) H Q := ⟨i, rfl, h⟩
theorem k_eq {x y : V} (s : scal x y = true) (h : Q (.bl (decide (x = y))) H) : rEq x y H Q := ⟨s, h⟩
theorem k_ne {x y : V} (s : scal x y = true) (h : Q (.bl (!decide (x = y))) H) : rNe x y H Q := ⟨s, h⟩
variable {K : PySem.W.Frag} {a : Addr} {xs : List V}
theorem k_setL {QH : Hp → Prop} {n : Int} {j : Nat} (e : H a = some (.lst xs)) (f : ixN xs.length n = some j) (h : QH (upd H a (.lst (xs.set j v)))) : rSetL (.ref a) (.int n) v H QH := ⟨a, xs, n, j, rfl, rfl, e, f, h⟩
theorem k_bm0 {T : String} {rm : V → List V → Hp → VK → Prop} (h : te σ H fun x H1 => tyV K T x H1 ∧ rm x [] H1 Q) : tBM0 K T rm te σ H Q := h
theorem k_bm {T : String} {rm : V → List V → Hp → VK → Prop} (h : te σ H fun x H1 => tyV K T x H1 ∧ tl σ H1 fun xs H2 => rm x xs H2 Q) : tBM K T rm te tl σ H Q := h
theorem k_tyL (e : H a = some (.lst xs)) : tyV K "list" (.ref a) H := .inl ⟨rfl, _, SqL.of e⟩
theorem k_pop (e : H a = some (.lst xs)) (l : xs[xs.length - 1]? = some v) (h : Q v (upd H a (.lst xs.dropLast))) : rPop (.ref a) [] H Q := ⟨a, xs, v, rfl, rfl, e, l, h⟩
theorem k_app (e : H a = some (.lst xs)) (l : xs.length < sizeLine) (h : Q .non (upd H a (.lst (xs ++ [v])))) : rAppend (.ref a) [v] H Q := ⟨a, xs, v, rfl, rfl, e, l, h⟩
theorem k_ixL {n : Int} (e : SqL K H a xs) (f : atI xs n = some v) (h : Q v H) : rIxL K (.ref a) (.int n) H Q := ⟨a, xs, n, v, rfl, rfl, e, f, h⟩
theorem k_ixT {n : Int} (e : SqT K H a xs) (f : atI xs n = some v) (h : Q v H) : rIxT K (.ref a) (.int n) H Q := ⟨a, xs, n, v, rfl, rfl, e, f, h⟩
end
section
variable {X : Cx} {K : PySem.W.Frag} {H : Hp} {Q : VK} {a : Addr} {xs : List V} {v : V}
def rLen (K : PySem.W.Frag) : List V → Hp → VK → Prop := fun xs H Q => ∃ p ys, xs = [.ref p] ∧ (SqL K H p ys ∨ SqT K H p ys) ∧ Q (.int ys.length) H
theorem c_len : CallR X (.builtin "len") (rLen X.K) := call_len_seq
theorem k_lenL (e : SqL K H a xs) (h : Q (.int xs.length) H) : rLen K [.ref a] H Q := ⟨a, xs, rfl, .inl e, h⟩
theorem k_lenT (e : SqT K H a xs) (h : Q (.int xs.length) H) : rLen K [.ref a] H Q := ⟨a, xs, rfl, .inr e, h⟩
def rList (K : PySem.W.Frag) : List V → Hp → VK → Prop := fun xs H Q => ∃ p ys, xs = [.ref p] ∧ (SqL K H p ys ∨ SqT K H p ys) ∧ ∀ l, H l = none → Q (.ref l) (upd H l (.lst ys))
theorem c_list : CallR X (.type "list") (rList X.K) := call_list_of
theorem k_listL (e : SqL K H a xs) (h : ∀ l, H l = none → Q (.ref l) (upd H l (.lst xs))) : rList K [.ref a] H Q := ⟨a, xs, rfl, .inl e, h⟩
theorem k_listT (e : SqT K H a xs) (h : ∀ l, H l = none → Q (.ref l) (upd H l (.lst xs))) : rList K [.ref a] H Q := ⟨a, xs, rfl, .inr e, h⟩
def rMax : List V → Hp → VK → Prop := fun xs H Q => ∃ i j, xs = [.int i, .int j] ∧ Q (.int (if j > i then j else i)) H
theorem c_max (hc : X.calm = true) : CallR X (.builtin "max") rMax := call_max2 hc
theorem k_max {i j : Int} (h : Q (.int (if j > i then j else i)) H) : rMax [.int i, .int j] H Q := ⟨i, j, rfl, h⟩
theorem k_ixqL {n : Int} (e : SqL K H a xs) (f : atI xs n = some v) (h : Q v H) : rIx K (.ref a) (.int n) H Q := .inl ⟨a, xs, n, v, rfl, rfl, e, f, h⟩
theorem k_ixqT {n : Int} (e : SqT K H a xs) (f : atI xs n = some v) (h : Q v H) : rIx K (.ref a) (.int n) H Q := .inr (.inl ⟨a, xs, n, v, rfl, rfl, e, f, h⟩)
theorem k_slL {lo hi : Option Int} (e : SqL K H a xs) (h : ∀ p, H p = none → Q (.ref p) (upd H p (.lst (cutV xs lo hi)))) : rSlL K (.ref a) lo hi H Q := ⟨a, xs, rfl, e, h⟩
theorem k_ltT {b : Addr} {ns ms : List Int} (e : SqT K H a (ns.map V.int)) (f : SqT K H b (ms.map V.int)) (h : Q (.bl (HT.lexLt ns ms)) H) : rLtT K (.ref a) (.ref b) H Q := ⟨a, b, ns, ms, rfl, rfl, e, f, h⟩
def rIsBb : R2 := rIsB
theorem k_isB {x y : Bool} (h : Q (.bl (decide (x = y))) H) : rIsB (.bl x) (.bl y) H Q := ⟨x, y, rfl, rfl, h⟩
theorem k_isN {x : V} {r : V → V → Hp → VK → Prop} (h : r x .non H Q) : r x .non H Q := h
variable {σ : L2.St} {te : TE} {tl th : TO} {tl' : TO} {QO : Option Int → Hp → Prop}
theorem k_sl {r : V → Option Int → Option Int → Hp → VK → Prop} (h : te σ H fun x H1 => tl σ H1 fun l H2 => th σ H2 fun u H3 => r x l u H3 Q) : tSl r te tl th σ H Q := h
theorem k_noP (h : QO none H) : tNoPart σ H QO := h
theorem k_part (h : te σ H fun x H1 => ∃ i, x = .int i ∧ QO (some i) H1) : tPart te σ H QO := h
theorem k_partI {R : Int → Prop} {i : Int} (h : R i) : ∃ j, V.int i = .int j ∧ R j := ⟨i, rfl, h⟩
theorem k_revL (h : te σ H fun x H1 => ∃ a xs, x = .ref a ∧ SqL K H1 a xs ∧ ∀ p, H1 p = none → Q (.ref p) (upd H1 p (.lst xs.reverse))) : tRevL K te σ H Q := h
/-- a > b, tuples of ints -/
def rGtT (K : PySem.W.Frag) : R2 := fun x y H Q => ∃ a b ns ms, x = .ref a ∧ y = .ref b ∧ SqT K H a (ns.map V.int) ∧ SqT K H b (ms.map V.int) ∧ Q (.bl (HT.lexLt ms ns)) H
theorem k_gtT {b : Addr} {ns ms : List Int} (e : SqT K H a (ns.map V.int)) (f : SqT K H b (ms.map V.int)) (h : Q (.bl (HT.lexLt ms ns)) H) : rGtT K (.ref a) (.ref b) H Q := ⟨a, b, ns, ms, rfl, rfl, e, f, h⟩
theorem dpAll_ints {K : PySem.W.Frag} {H : Hp} : ∀ xs : List Int, DpAll K H (xs.map V.int) (xs.map PyData.int)
  | [] => .nil
  | x :: xs => .cons (.int x) (dpAll_ints xs)
theorem alike_ints : ∀ xs ys : List Int, PySem.W.alikeAll (xs.map PyData.int) (ys.map PyData.int) = true
  | [], ys => by cases ys <;> rfl
  | _ :: _, [] => rfl
  | x :: xs, y :: ys => by
    show (true && _) = true
    rw [alike_ints xs ys]
    rfl
theorem depth_ints : ∀ xs : List Int, PyData.depthAll (xs.map PyData.int) = 0
  | [] => rfl
  | x :: xs => by
    show max 0 (PyData.depthAll (xs.map PyData.int)) = 0
    rw [depth_ints xs]
    rfl
theorem lt_ints : ∀ xs ys : List Int, PySem.W.dataLt (.tuple (xs.map PyData.int)) (.tuple (ys.map PyData.int)) = HT.lexLt xs ys
  | [], [] => by decide
  | [], y :: ys => by
    show PyProof.Rows.lexLt itemOrd (PySem.W.keyToksAll []) (PySem.W.keyToksAll (PyData.int y :: _)) = true
    rw [PySem.W.toks_all_cons]
    exact (lex_diff (O := itemOrd) (by decide)).trans (by decide)
  | x :: xs, [] => by
    show PyProof.Rows.lexLt itemOrd (PySem.W.keyToksAll (PyData.int x :: _)) (PySem.W.keyToksAll []) = false
    rw [PySem.W.toks_all_cons]
    exact (lex_diff (O := itemOrd) (by decide)).trans (by decide)
  | x :: xs, y :: ys => by
    show PyProof.Rows.lexLt itemOrd (PySem.W.keyToksAll (PyData.int x :: _)) (PySem.W.keyToksAll (PyData.int y :: _)) = (if x = y then HT.lexLt xs ys else decide (x < y))
    by_cases e : x = y
    · subst e
      rw [if_pos rfl, PySem.W.dataLt_all_yes rfl (by simp [PyData.eqv])]
      exact lt_ints xs ys
    · rw [if_neg e, PySem.W.dataLt_all_no rfl (by simpa [PyData.eqv] using e)]
      exact PySem.W.dataLt_int x y
theorem op_gtT {X : Cx} (hu : X.A.units + 64 < cLine) : OpR X (compareOp .Gt) (rGtT X.K) := by
  intro pins s σ H x y v u Q I rx ry h
  obtain ⟨a, b, ns, ms, rfl, rfl, ha, hb, q⟩ := h
  obtain ⟨as, r1⟩ := Dp.reads I (.tuple (ns.map PyData.int)) (.ref a) v (.tup ha (dpAll_ints ns)) rx
  obtain ⟨bs, r2⟩ := Dp.reads I (.tuple (ms.map PyData.int)) (.ref b) u (.tup hb (dpAll_ints ms)) ry
  refine PySem.W.gt_data r1 r2 (alike_ints ns ms) (fun z => by cases z) ?_ ⟨.bl _, H, I, rfl, ?_⟩
  · show X.A.units + min (PyData.depthAll (ns.map PyData.int) + 1) _ < cLine
    rw [depth_ints]
    omega
  · rw [lt_ints]
    exact q
end
theorem atI_head {α : Type} {x : α} {xs : List α} : atI (x :: xs) 0 = some x := atI_nat (j := 0) (xs := x :: xs) rfl
/-! what is known is known behind a step -/
theorem lk_new {H : Hp} {a p : Addr} {o u : HO} (h : H a = some u) (n : H p = none) : upd H p o a = some u := (upd_ne (ne_of_none h n)).trans h
theorem lk_ext {M : Addr → Prop} {H H' : Hp} {a : Addr} {xs : List V} (e : Ext M H H') (h : H a = some (.tup xs)) : H' a = some (.tup xs) := e.1 a xs h
theorem lk_same {H H' : Hp} {a : Addr} {o : HO} (e : Same H H') (h : H a = some o) : H' a = some o := e a o h
end Own

set_option Elab.async false
set_option maxRecDepth 100000
set_option maxHeartbeats 4000000
namespace K20
open PySem PySem.Spec PyProof.Rows L2 Own
def top (i : Nat) : Stmt := PySem.Challenge.pw_ownwake_k20_places_ahead.main.body.getD i (.Pass ⟨0, 0, 0, 0⟩)
abbrev s_is_ahead : Stmt := top 1
theorem sc_is_ahead : FnScope ["path", "one", "other"] ["path", "one", "other"] (defScope s_is_ahead) :=
  ⟨rfl, rfl, rfl, by decide +kernel, rfl, by decide +kernel, by decide +kernel⟩
abbrev s_comes_first : Stmt := top 2
theorem sc_comes_first : FnScope ["path", "place", "other"] ["path", "place", "other"] (defScope s_comes_first) :=
  ⟨rfl, rfl, rfl, by decide +kernel, rfl, by decide +kernel, by decide +kernel⟩
-- steps
local macro_rules | `(tactic| walk_at "lk") => `(tactic| first
  | assumption | exact upd_same
  | ((with_reducible refine' lk_new ?e (by assumption)); (case e => walk_at "lk"))
  | ((with_reducible refine' lk_ext (by assumption) ?e); (case e => walk_at "lk"))
  | ((with_reducible refine' lk_same (by assumption) ?e); (case e => walk_at "lk")))
local macro_rules | `(tactic| walk_at "sq") => `(tactic| first | assumption | exact SqL.of (by walk_at "lk") | exact SqT.of (by walk_at "lk"))
local macro_rules | `(tactic| walk_at "r1") => `(tactic| first
  | with_reducible refine k_seq ?_ | with_reducible refine k_asg ?_ | with_reducible refine k_ret ?_ | with_reducible refine k_drop ?_ | with_reducible refine k_next ?_ | with_reducible refine k_ifS ?_
  | ((with_reducible refine' k_var ?e ?_); (case e => exact rfl)) | with_reducible refine k_c ?_ | with_reducible refine k_op ?_ | with_reducible refine k_un ?_ | with_reducible refine k_test ?_ | with_reducible refine k_B ?_
  | with_reducible refine k_and ?_ | with_reducible refine k_or ?_ | with_reducible refine k_not ?_ | with_reducible refine k_andV ?_ | with_reducible refine k_orV ?_ | with_reducible refine k_notV ?_ | with_reducible refine k_if ?_
  | with_reducible refine k_nil ?_ | with_reducible refine k_cons ?_ | with_reducible refine k_tup ?_ | with_reducible refine k_lst ?_ | with_reducible refine k_call ?_ | with_reducible refine k_cb ?_ | with_reducible refine k_ck ?_
  | with_reducible refine k_par ?_ | with_reducible refine k_par1 ?_ | with_reducible refine k_tr ?_ | with_reducible refine k_rI0 ?_ | with_reducible refine k_rU ?_
  | with_reducible refine k_gN ?_ | with_reducible refine k_gS ?_ | with_reducible refine k_gNil ?_ | with_reducible refine k_gCons ?_ | with_reducible refine k_bm0 ?_ | with_reducible refine k_bm ?_
  | with_reducible refine k_for ?_ | with_reducible refine k_iL ?_ | with_reducible refine k_iT ?_ | with_reducible refine k_iR1 ?_ | ((with_reducible refine k_iR1i ?e ?_); (case e => first | decide | exact ⟨by omega, by omega⟩))
  | with_reducible refine k_max ?_ | with_reducible refine k_isB ?_ | with_reducible refine k_sl ?_ | with_reducible refine k_noP ?_ | with_reducible refine k_part ?_ | with_reducible refine k_partI ?_ | with_reducible refine k_revL ?_
  | ((with_reducible refine' k_ixqT ?e ?f ?_); (case e => walk_at "sq"); (case f => first | exact rfl | exact atI_head))
  | ((with_reducible refine' k_ixqL ?e ?f ?_); (case e => walk_at "sq"); (case f => first | exact rfl | exact atI_head))
  | ((with_reducible refine' k_lenL ?e ?_); (case e => walk_at "sq"))
  | ((with_reducible refine' k_lenT ?e ?_); (case e => walk_at "sq"))
  | ((with_reducible refine' k_ixL ?e ?f ?_); (case e => walk_at "sq"); (case f => first | exact rfl | exact atI_head))
  | ((with_reducible refine' k_ixT ?e ?f ?_); (case e => walk_at "sq"); (case f => first | exact rfl | exact atI_head))
  | ((with_reducible refine k_eq ?e ?_); (case e => exact rfl)) | ((with_reducible refine k_ne ?e ?_); (case e => exact rfl))
  | ((with_reducible refine k_rI ?e ?_); (case e => first | assumption | omega | decide | exact ⟨by omega, by omega⟩ | exact .inl ⟨by omega, by omega⟩ | exact .inr ⟨by omega, by omega⟩)))
local macro_rules | `(tactic| walk_at "rd") => `(tactic| repeat walk_at "r1")
-- steps end
abbrev s_deck : Stmt := top 4
theorem sc_deck : FnScope ["_law_script", "_law_cell", "_law_cells", "_law_mixed"] ["_law_script"] (defScope s_deck) :=
  ⟨rfl, rfl, rfl, by decide +kernel, rfl, by decide +kernel, by decide +kernel⟩
abbrev s_draw : Stmt := top 5
theorem sc_draw : FnScope ["_law_deck_here", "_law_many", "_law_cell", "_law_mixed"] ["_law_deck_here", "_law_many"] (defScope s_draw) :=
  ⟨rfl, rfl, rfl, by decide +kernel, rfl, by decide +kernel, by decide +kernel⟩
abbrev s_pick : Stmt := top 6
theorem sc_pick : FnScope ["_law_deck_here", "_law_some"] ["_law_deck_here", "_law_some"] (defScope s_pick) :=
  ⟨rfl, rfl, rfl, by decide +kernel, rfl, by decide +kernel, by decide +kernel⟩
/-! ### the deck: the cells' list, a number, how often it was drawn -/
def Dk (d c : Addr) (a : Addr) : Prop := a = d ∨ a = c
def Deck (d c : Addr) (b : Int) (H : Hp) : Prop := ∃ (xs : List Int) (m n : Int), d ≠ c ∧ H d = some (.lst [.ref c, .int m, .int n]) ∧ H c = some (.lst (xs.map V.int)) ∧
  0 ≤ m ∧ m < 4294967296 ∧ 0 ≤ n ∧ n ≤ b ∧ xs.length ≤ 63
theorem Deck.mono {d c : Addr} {b b' : Int} {H : Hp} (D : Deck d c b H) (h : b ≤ b') : Deck d c b' H := by
  obtain ⟨xs, m, n, ne, h1, h2, m0, m1, n0, n1, l⟩ := D
  exact ⟨xs, m, n, ne, h1, h2, m0, m1, n0, Int.le_trans n1 h, l⟩
theorem Deck.same {d c : Addr} {b : Int} {H H' : Hp} (D : Deck d c b H) (s : Same H H') : Deck d c b H' := by
  obtain ⟨xs, m, n, ne, h1, h2, r⟩ := D
  exact ⟨xs, m, n, ne, s _ _ h1, s _ _ h2, r⟩
theorem Deck.new {d c : Addr} {b : Int} {H : Hp} (D : Deck d c b H) {p : Addr} {o : HO} (n : H p = none) : Deck d c b (upd H p o) := D.same (Same.upd n)
/-- what is new is not of the deck -/
theorem Deck.off {d c : Addr} {b : Int} {H : Hp} (D : Deck d c b H) {p : Addr} (n : H p = none) : ¬ Dk d c p := by
  obtain ⟨xs, m, k, _, h1, h2, _⟩ := D
  rintro (rfl | rfl)
  · rw [h1] at n; cases n
  · rw [h2] at n; cases n
theorem Deck.tup {d c : Addr} {b : Int} {H : Hp} (D : Deck d c b H) {p : Addr} {xs : List V} (n : H p = some (.tup xs)) : ¬ Dk d c p := by
  obtain ⟨xs, m, k, _, h1, h2, _⟩ := D
  rintro (rfl | rfl)
  · rw [h1] at n; cases n
  · rw [h2] at n; cases n

theorem dp_ints {K : PySem.W.Frag} {H : Hp} : ∀ xs : List Int, DpAll K H (xs.map V.int) (xs.map PyData.int)
  | [] => .nil
  | x :: xs => .cons (.int x) (dp_ints xs)
theorem lay_ints : ∀ xs : List Int, SeqAt.shaped (.list (xs.map PyData.int)) = true := by
  intro xs
  have h1 : ∀ ys : List Int, PyData.canLayAll0 (ys.map PyData.int) = true := by
    intro ys
    induction ys with
    | nil => rfl
    | cons y ys ih => simpa [PyData.canLayAll0, PyData.canLay0] using ih
  have h2 : ∀ ys : List Int, PyData.depthAll (ys.map PyData.int) = 0 := by
    intro ys
    induction ys with
    | nil => rfl
    | cons y ys ih => simp [PyData.depthAll, PyData.depth, ih]
  unfold SeqAt.shaped
  simp [PyData.canLay0, PyData.depth, h1, h2]
theorem ne_nil (x : PyData) (xs : List PyData) : PyData.eqv (.list (x :: xs)) (.list []) = false := by
  simp [PyData.eqv, PyData.eqvAll]
theorem eq_nil : PyData.eqv (.list []) (.list []) = true := by simp [PyData.eqv, PyData.eqvAll]

section
variable {P : Program} {w : World} {K : PySem.W.Frag} {mg : Str → Option Value} {g0 : Heap}

def spDraw : Sp := fun vs H Q _ => ∃ (d c : Addr) (b many : Int), vs = [.ref d, .int many] ∧ Deck d c b H ∧ b ≤ 1000000000 ∧ 0 < many ∧ many ≤ 1000000000000 ∧
  ∀ (r : Int) (H' : Hp), 0 ≤ r → r < many → Deck d c (b + 1) H' → Ext (Dk d c) H H' → Q (.int r) H'
theorem ok_draw {f : Addr} {fd : FuncData} (F : Fun K "_law_draw" "_law_draw" s_draw f fd) : GOk P w K mg g0 CX0 1 f fd ["_law_deck_here", "_law_many"] spDraw := by
  refine okG F sc_draw (fun vs H Q E h => ?_) (fun cdv A up s H vs Q E qt hr h => ?_)
  · obtain ⟨d, c, b, many, rfl, _⟩ := h
    rfl
  · obtain ⟨d, c, b, many, rfl, D, hb, h0, h1, k⟩ := h
    refine ⟨_, pss_cons (ps_asg (pe_op op_add (pe_ix ix_list (pv 0) pe_int (fun _ _ => rfl)) pe_int) (pg_sub (pv 0) pe_int set_list))
      (pss_cons (ps_set (i := 2) sc_draw.nd rfl (.inl rfl) (pe_ix ix_list (pv 0) pe_int (fun _ _ => rfl)))
      (Evl.pss_cut (ps_if (pt_cmpR (op_neD hr.units) (pe_ix ix_list (pv 0) pe_int (fun _ _ => rfl)) (pe_lst pa_nil) (nomark _))
        (pss_cons (ps_set (i := 2) sc_draw.nd rfl (.inl rfl) (pe_bm0 PySem.F.plainAttrs_list PySem.F.slot_list_pop PySem.F.type_list_pop mt_pop (pe_ix ix_list (pv 0) pe_int (fun _ _ => rfl))))
          (pss_cons (ps_if (pt_cmpR op_ge (pv 2) (pe_op op_pow pe_int pe_int) (nomark _))
            (pss_cons (ps_expr (pe_bm PySem.F.plainAttrs_list PySem.F.slot_list_append PySem.F.type_list_append mt_append (pe_ix ix_list (pv 0) pe_int (fun _ _ => rfl)) (pa_cons (pe_op op_fdivW (pv 2) (pv 1)) pa_nil)))
              (pss_one (ps_ret (pe_op op_mod (pv 2) (pv 1))))) pss_nil)
          (pss_one (ps_set (i := 2) sc_draw.nd rfl (.inl rfl) (pe_op op_add (pv 2) (pe_ix ix_list (pv 0) pe_int (fun _ _ => rfl))))))) pss_nil)
      (pss_cons (ps_set (i := 3) sc_draw.nd rfl (.inl rfl) (pe_op op_mod (pe_op op_mul (pe_op op_add (pe_op op_add (pe_op op_mod (pv 2) pe_int) (pe_op op_mul (pe_op op_mul pe_int (pe_ix ix_list (pv 0) pe_int (fun _ _ => rfl))) (pe_ix ix_list (pv 0) pe_int (fun _ _ => rfl)))) pe_int) pe_int) pe_int))
      (pss_cons (ps_set (i := 3) sc_draw.nd rfl (.inl rfl) (pe_op op_mod (pe_op op_add (pe_op op_add (pe_op op_mul (pv 3) (pv 3)) (pe_op op_mul pe_int (pe_ix ix_list (pv 0) pe_int (fun _ _ => rfl)))) pe_int) pe_int))
      (pss_one (ps_ret (pe_op op_mod (pe_op op_fdiv (pe_op op_mod (pe_op op_mul (pv 3) pe_int) pe_int) pe_int) (pv 1)))))))), ?_⟩
    obtain ⟨xs, m, n, ne, hd, hc, m0, m1, n0, n1, hl⟩ := D
    walk_at "rd"
    refine' k_setL hd rfl ?_
    rw [show [V.ref c, V.int m, V.int n].set (Int.toNat 2) (V.int (n + 1)) = [V.ref c, V.int m, V.int (n + 1)] from rfl]
    have x1 : Ext (Dk d c) H (upd H d (.lst [V.ref c, V.int m, V.int (n + 1)])) := Ext.upd hd (.inl rfl) (fun _ z => by cases z)
    have hd1 : upd H d (.lst [V.ref c, V.int m, V.int (n + 1)]) d = some (.lst [V.ref c, V.int m, V.int (n + 1)]) := upd_same
    have hc1 : upd H d (.lst [V.ref c, V.int m, V.int (n + 1)]) c = some (.lst (xs.map V.int)) := (upd_ne ne.symm).trans hc
    generalize upd H d (.lst [V.ref c, V.int m, V.int (n + 1)]) = H1 at x1 hd1 hc1 ⊢
    walk_at "rd"
    let Mid : L2.St → Hp → Prop := fun σ' H' => ∃ (cell : Int) (ys : List Int), σ' = [some (.ref d), some (.int many), some (.int cell), none] ∧ Ext (Dk d c) H H' ∧
      H' d = some (.lst [V.ref c, V.int m, V.int (n + 1)]) ∧ H' c = some (.lst (ys.map V.int)) ∧ ys.length ≤ 63
    refine ⟨Mid, ?_, ?_⟩
    · walk_at "rd"
      refine ⟨k_sz rfl, fun p hp => ?_⟩
      have x2 : Ext (Dk d c) H (upd H1 p (.lst [])) := x1.trans (ext_new hp)
      have hd2 := lk_new (o := .lst []) hd1 hp
      have hc2 := lk_new (o := .lst []) hc1 hp
      have hp2 : upd H1 p (.lst []) p = some (.lst []) := upd_same
      generalize upd H1 p (.lst []) = H2 at x2 hd2 hc2 hp2 ⊢
      refine ⟨.list (xs.map .int), .list [], .lst (SqL.of hc2) (dp_ints xs), .lst (SqL.of hp2) .nil, lay_ints xs, lay_ints [], ?_⟩
      rcases List.eq_nil_or_concat xs with rfl | ⟨zs, z, rfl⟩
      · refine ⟨_, rfl, ?_⟩
        rw [show PyData.eqv (.list (List.map PyData.int [])) (.list []) = true from eq_nil]
        refine iteF ?_
        exact ⟨m, [], rfl, x2, hd2, hc2, Nat.zero_le _⟩
      · have hz : (zs.concat z).map V.int = zs.map V.int ++ [V.int z] := by simp
        have hz2 : zs.length ≤ 62 := by simp at hl; omega
        refine ⟨_, rfl, ?_⟩
        rw [show PyData.eqv (.list (List.map PyData.int (zs.concat z))) (.list []) = false by
          cases zs <;> simp [PyData.eqv, PyData.eqvAll]]
        refine iteT ?_
        walk_at "rd"
        refine ⟨k_tyL hc2, ?_⟩
        rw [hz] at hc2
        refine k_pop (v := .int z) hc2 (by simp) ?_
        rw [List.dropLast_concat]
        have x3 : Ext (Dk d c) H (upd H2 c (.lst (zs.map V.int))) := x2.trans (Ext.upd hc2 (.inr rfl) (fun _ z => by cases z))
        have hd3 : upd H2 c (.lst (zs.map V.int)) d = some (.lst [V.ref c, V.int m, V.int (n + 1)]) := (upd_ne ne).trans hd2
        have hc3 : upd H2 c (.lst (zs.map V.int)) c = some (.lst (zs.map V.int)) := upd_same
        generalize upd H2 c (.lst (zs.map V.int)) = H3 at x3 hd3 hc3 ⊢
        walk_at "rd"
        refine k_ite (fun _ => ?_) (fun _ => ?_)
        · walk_at "rd"
          refine ⟨k_tyL hc3, ?_⟩
          walk_at "rd"
          refine k_rI (wide_div (b := 40) h0 (by omega) (by decide) (by decide)) ?_
          walk_at "rd"
          refine k_app hc3 (by simp; exact Nat.lt_of_le_of_lt hz2 (by decide)) ?_
          walk_at "rd"
          refine k _ _ (Int.emod_nonneg _ (by omega)) (Int.emod_lt_of_pos _ h0) ⟨zs ++ [z / many], m, n + 1, ne, (upd_ne ne).trans hd3, ?_, m0, m1, by omega, by omega, by simp; omega⟩ ?_
          · rw [upd_same]
            simp
          · exact x3.trans (Ext.upd hc3 (.inr rfl) (fun _ z => by cases z))
        · walk_at "rd"
          exact ⟨z + m, zs, rfl, x3, hd3, hc3, by omega⟩
    · rintro σ' H' ⟨cell, ys, rfl, x2, hd2, hc2, hy⟩
      walk_at "rd"
      exact k _ _ (Int.emod_nonneg _ (by omega)) (Int.emod_lt_of_pos _ h0) ⟨ys, m, n + 1, ne, hd2, hc2, m0, m1, by omega, by omega, hy⟩ x2

theorem atI_in {xs : List V} {r : Int} (h0 : 0 ≤ r) (h1 : r < (xs.length : Int)) : ∃ x, x ∈ xs ∧ atI xs r = some x := by
  have h2 : r.toNat < xs.length := by omega
  refine ⟨xs[r.toNat], List.getElem_mem h2, ?_⟩
  have e : ((r.toNat : Nat) : Int) = r := by omega
  have q : atI xs ((r.toNat : Nat) : Int) = some xs[r.toNat] := atI_nat (List.getElem?_eq_getElem h2)
  rw [e] at q
  exact q
def spPick : Sp := fun vs H Q _ => ∃ (d c l : Addr) (b : Int) (xs : List V), vs = [.ref d, .ref l] ∧ Deck d c b H ∧ b ≤ 1000000000 ∧ ¬ Dk d c l ∧ H l = some (.lst xs) ∧ 0 < xs.length ∧ xs.length ≤ 1000 ∧
  ∀ (x : V) (H' : Hp), x ∈ xs → Deck d c (b + 1) H' → Ext (Dk d c) H H' → Q x H'
theorem ok_pick {f : Addr} {fd : FuncData} (F : Fun K "_law_pick" "_law_pick" s_pick f fd) (z_len : mg "len" = none)
    (C_draw : Cal P w K mg g0 "_law_draw" 1 ["_law_deck_here", "_law_many"] spDraw) : GOk P w K mg g0 CX0 2 f fd ["_law_deck_here", "_law_some"] spPick := by
  have nd := sc_pick.nd
  refine okG F sc_pick (fun vs H Q E h => ?_) (fun cdv A up s H vs Q E qt hr h => ?_)
  · obtain ⟨d, c, l, b, xs, rfl, _⟩ := h
    rfl
  · obtain ⟨d, c, l, b, xs, rfl, D, hb, ml, hl, l0, l1, k⟩ := h
    refine ⟨_, (pss_one (ps_ret (pe_ix ix_seq (pv 1) (pe_c C_draw qt (hr.mono (by decide)) (pa_cons (pv 0) (pa_cons (pe_callB c_len (by rfl) z_len (by decide +kernel) (pa_cons (pv 1) pa_nil)) pa_nil))) (fun _ _ => rfl)))), ?_⟩
    walk_at "rd"
    refine ⟨d, c, b, _, rfl, D, hb, by omega, by omega, fun r H' r0 r1 D' x' => ?_⟩
    obtain ⟨x, hx, he⟩ := atI_in r0 r1
    refine k_ixqL (SqL.of (x'.2 _ _ ml hl)) he ?_
    exact k x H' hx D' x'
theorem cut_ints (ns : List Int) (lo hi : Option Int) : ∃ ms : List Int, cutV (ns.map V.int) lo hi = ms.map V.int ∧ ms.length ≤ ns.length := by
  refine ⟨(ns.drop (HT.sIx ns.length 0 lo)).take (HT.sIx ns.length ns.length hi - HT.sIx ns.length 0 lo), ?_, ?_⟩
  · unfold cutV
    rw [List.length_map, List.map_take, List.map_drop]
  · rw [List.length_take, List.length_drop]
    omega
def spDeck (K : PySem.W.Frag) : Sp := fun vs H Q _ => ∃ (a : Addr) (ns : List Int), vs = [.ref a] ∧ SqL K H a (ns.map V.int) ∧ ns.length ≤ 63 ∧
  ∀ (d c : Addr) (H' : Hp), H d = none → H c = none → Deck d c 0 H' → Same H H' → Q (.ref d) H'
theorem same_free {H H' : Hp} (s : Same H H') {p : Addr} (h : H' p = none) : H p = none := L2.Same.free s h
theorem ok_deck {f : Addr} {fd : FuncData} (F : Fun K "_law_deck" "_law_deck" s_deck f fd) (z_list : mg "list" = none) : GOk P w K mg g0 CX0 1 f fd ["_law_script"] (spDeck K) := by
  have nd := sc_deck.nd
  refine okG F sc_deck (fun vs H Q E h => ?_) (fun cdv A up s H vs Q E qt hr h => ?_)
  · obtain ⟨a, ns, rfl, _⟩ := h
    rfl
  · obtain ⟨a, ns, rfl, hS, hl, k⟩ := h
    refine ⟨_, (pss_cons (ps_par (i := 2) (j := 3) (by rfl) nd rfl rfl (by decide) rfl rfl (pa_cons (pe_callTy c_list (by rfl) z_list (by decide +kernel) (pa_cons (pe_slice sl_list (pv 0) po_none (po_some pe_int)) pa_nil)) (pa_cons pe_int pa_nil)) (by rfl))
        (pss_cons (ps_for PassesOwn.never rfl (pi_list (pv 2)) (pg_name (i := 1) nd rfl (Or.inl rfl)) (pss_one (ps_set (i := 3) nd rfl (Or.inl rfl) (pe_op op_mod (pe_op op_add (pe_op op_add (pe_op op_mul (pv 3) pe_int) (pe_op op_mod (pv 1) pe_int)) pe_int) pe_int))))
        (pss_one (ps_ret (pe_lst (pa_cons (pe_revL (pv 2)) (pa_cons (pv 3) (pa_cons pe_int pa_nil)))))))), ?_⟩
    walk_at "rd"
    refine k_slL hS (fun p hp => ?_)
    obtain ⟨ms, em, lm⟩ := cut_ints ns none (some 63)
    rw [em]
    have s1 : Same H (upd H p (.lst (ms.map V.int))) := Same.upd hp
    have hp1 : upd H p (.lst (ms.map V.int)) p = some (.lst (ms.map V.int)) := upd_same
    generalize upd H p (.lst (ms.map V.int)) = H1 at s1 hp1 ⊢
    walk_at "rd"
    refine k_listL (SqL.of hp1) (fun q hq => ?_)
    have s2 : Same H (upd H1 q (.lst (ms.map V.int))) := s1.trans (Same.upd hq)
    have hq2 : upd H1 q (.lst (ms.map V.int)) q = some (.lst (ms.map V.int)) := upd_same
    generalize upd H1 q (.lst (ms.map V.int)) = H2 at s2 hq2 ⊢
    walk_at "rd"
    let Pv : Nat → L2.St → Hp → Prop := fun i σ H' => ∃ (m : Int) (v : Option V), σ = [some (.ref a), v, some (.ref q), some (.int m)] ∧ H2 = H' ∧ 0 ≤ m ∧ m < 4294967296
    refine ⟨q, rfl, ⟨_, SqL.of hq2⟩, for_list (xs := ms.map V.int) Pv ⟨_, _, rfl, rfl, by decide, by decide⟩ (fun i σ H' _ h => ?_) (fun i x σ H' hx h => ?_) (fun σ H' h => ?_)⟩
    · obtain ⟨m, v, rfl, rfl, _⟩ := h
      exact SqL.of hq2
    · obtain ⟨m, v, rfl, rfl, m0, m1⟩ := h
      rw [List.getElem?_map] at hx
      obtain ⟨z, hz, rfl⟩ := Option.map_eq_some_iff.mp hx
      walk_at "rd"
      exact ⟨_, _, rfl, rfl, by omega, by omega⟩
    · obtain ⟨m, v, rfl, rfl, m0, m1⟩ := h
      walk_at "rd"
      refine ⟨q, _, rfl, SqL.of hq2, fun c hc => ?_⟩
      have s3 : Same H (upd H2 c (.lst (ms.map V.int).reverse)) := s2.trans (Same.upd hc)
      have hc3 : upd H2 c (.lst (ms.map V.int).reverse) c = some (.lst (ms.map V.int).reverse) := upd_same
      generalize upd H2 c (.lst (ms.map V.int).reverse) = H3 at s3 hc3 ⊢
      walk_at "rd"
      refine ⟨k_sz rfl, fun d hd => ?_⟩
      refine k d c _ (same_free s3 hd) (same_free s2 hc) ⟨ms.reverse, m, 0, (ne_of_none hc3 hd).symm, upd_same, ?_, m0, m1, Int.le_refl _, Int.le_refl _, ?_⟩ (s3.trans (Same.upd hd))
      · rw [upd_ne (ne_of_none hc3 hd), hc3, List.map_reverse]
      · rw [List.length_reverse]
        omega
end
abbrev s_row : Stmt := top 7
theorem sc_row : FnScope ["_law_deck_here", "_law_great", "_law_values"] ["_law_deck_here"] (defScope s_row) :=
  ⟨rfl, rfl, rfl, by decide +kernel, rfl, by decide +kernel, by decide +kernel⟩
abbrev s_near : Stmt := top 8
theorem sc_near : FnScope ["_law_deck_here", "_law_row_here", "_law_number", "_law_value"] ["_law_deck_here", "_law_row_here"] (defScope s_near) :=
  ⟨rfl, rfl, rfl, by decide +kernel, rfl, by decide +kernel, by decide +kernel⟩
abbrev s_paths : Stmt := top 9
theorem sc_paths : FnScope ["_law_deck_here", "_law_column"] ["_law_deck_here"] (defScope s_paths) :=
  ⟨rfl, rfl, rfl, by decide +kernel, rfl, by decide +kernel, by decide +kernel⟩
abbrev s_due : Stmt := top 10
theorem sc_due : FnScope ["_law_road", "_law_near_here", "_law_far", "_law_sooner"] ["_law_road", "_law_near_here", "_law_far"] (defScope s_due) :=
  ⟨rfl, rfl, rfl, by decide +kernel, rfl, by decide +kernel, by decide +kernel⟩
abbrev s_pair_right : Stmt := top 11
theorem sc_pair_right : FnScope ["_law_road", "_law_near_here", "_law_far", "_law_is_unlike", "_law_first", "_law_second", "_law_due_here", "_law_told"] ["_law_road", "_law_near_here", "_law_far"] (defScope s_pair_right) :=
  ⟨rfl, rfl, rfl, by decide +kernel, rfl, by decide +kernel, by decide +kernel⟩
abbrev s_chain_right : Stmt := top 12
theorem sc_chain_right : FnScope ["_law_road", "_law_rows", "_law_first", "_law_second", "_law_third"] ["_law_road", "_law_rows"] (defScope s_chain_right) :=
  ⟨rfl, rfl, rfl, by decide +kernel, rfl, by decide +kernel, by decide +kernel⟩
abbrev s_law : Stmt := top 13
theorem sc_law : FnScope ["_law_script", "_law_deck_here", "_law_turn", "_law_near_here", "_law_far", "_law_third", "_law_road"] ["_law_script"] (defScope s_law) :=
  ⟨rfl, rfl, rfl, by decide +kernel, rfl, by decide +kernel, by decide +kernel⟩

/-! ### what is ahead of what -/
def before (road : Str) (n v m u : Int) : Bool :=
  if road = "heap" then decide (n < m) else if road = "down" then HT.lexLt [u, m] [v, n] else HT.lexLt [v, n] [u, m]
def Road (r : Str) : Prop := r = "heap" ∨ r = "up" ∨ r = "down"
theorem heap_up : ¬ (("up" : Str) = "heap") := by decide +kernel
theorem heap_down : ¬ (("down" : Str) = "heap") := by decide +kernel
theorem up_down : ¬ (("up" : Str) = "down") := by decide +kernel
theorem down_up : ¬ (("down" : Str) = "up") := by decide +kernel
theorem lex2 (a b c d : Int) : HT.lexLt [a, b] [c, d] = if a = c then decide (b < d) else decide (a < c) := by
  show (if a = c then (if b = d then false else decide (b < d)) else decide (a < c)) = _
  by_cases h : a = c
  · rw [if_pos h, if_pos h]
    by_cases g : b = d
    · rw [if_pos g, g]
      simp
    · rw [if_neg g]
  · rw [if_neg h, if_neg h]
/-- two rows of which one is ahead -/
theorem before_or (r : Str) (h : Road r) (n v m u : Int) :
    (before r n v m u || before r m u n v) = (!decide (n = m) || (!decide (r = "heap") && !decide (v = u))) := by
  rcases h with rfl | rfl | rfl
  · rw [Bool.eq_iff_iff]
    simp only [before, if_pos, Bool.or_eq_true, Bool.and_eq_true, Bool.not_eq_true', decide_eq_true_eq, decide_eq_false_iff_not]
    simp only [not_true_eq_false, false_and, or_false]
    omega
  · simp only [before, if_neg heap_up, if_neg up_down, lex2]
    rw [decide_eq_false heap_up]
    by_cases g : v = u
    · subst g
      rw [Bool.eq_iff_iff]
      simp only [if_pos, Bool.or_eq_true, Bool.and_eq_true, Bool.not_eq_true', decide_eq_true_eq, decide_eq_false_iff_not, Bool.not_false, true_and, not_true_eq_false, or_false]
      omega
    · rw [if_neg g, if_neg (Ne.symm g)]
      rw [Bool.eq_iff_iff]
      simp only [Bool.or_eq_true, Bool.and_eq_true, Bool.not_eq_true', decide_eq_true_eq, decide_eq_false_iff_not, Bool.not_false, true_and]
      omega
  · simp only [before, if_neg heap_down, if_pos, lex2]
    rw [decide_eq_false heap_down]
    by_cases g : v = u
    · subst g
      rw [Bool.eq_iff_iff]
      simp only [if_pos, Bool.or_eq_true, Bool.and_eq_true, Bool.not_eq_true', decide_eq_true_eq, decide_eq_false_iff_not, Bool.not_false, true_and, not_true_eq_false, or_false]
      omega
    · rw [if_neg g, if_neg (Ne.symm g)]
      rw [Bool.eq_iff_iff]
      simp only [Bool.or_eq_true, Bool.and_eq_true, Bool.not_eq_true', decide_eq_true_eq, decide_eq_false_iff_not, Bool.not_false, true_and]
      omega
theorem before_trans (r : Str) (h : Road r) (n v m u k w : Int) (h1 : before r n v m u = true) (h2 : before r m u k w = true) : before r n v k w = true := by
  rcases h with rfl | rfl | rfl
  · simp only [before, if_pos, decide_eq_true_eq] at *
    omega
  · simp only [before, if_neg heap_up, if_neg up_down, lex2] at *
    split at h1 <;> split at h2 <;> simp only [decide_eq_true_eq] at h1 h2 <;> split <;> simp only [decide_eq_true_eq] <;> omega
  · simp only [before, if_neg heap_down, if_pos, lex2] at *
    split at h1 <;> split at h2 <;> simp only [decide_eq_true_eq] at h1 h2 <;> split <;> simp only [decide_eq_true_eq] <;> omega
end K20

set_option Elab.async false
set_option maxRecDepth 100000
set_option maxHeartbeats 4000000
namespace K20
open PySem PySem.Spec PyProof.Rows L2 Own
-- steps
local macro_rules | `(tactic| walk_at "lk") => `(tactic| first
  | assumption | exact upd_same
  | ((with_reducible refine' lk_new ?e (by assumption)); (case e => walk_at "lk"))
  | ((with_reducible refine' lk_ext (by assumption) ?e); (case e => walk_at "lk"))
  | ((with_reducible refine' lk_same (by assumption) ?e); (case e => walk_at "lk")))
local macro_rules | `(tactic| walk_at "sq") => `(tactic| first | assumption | exact SqL.of (by walk_at "lk") | exact SqT.of (by walk_at "lk"))
local macro_rules | `(tactic| walk_at "r1") => `(tactic| first
  | with_reducible refine k_seq ?_ | with_reducible refine k_asg ?_ | with_reducible refine k_ret ?_ | with_reducible refine k_drop ?_ | with_reducible refine k_next ?_ | with_reducible refine k_ifS ?_
  | ((with_reducible refine' k_var ?e ?_); (case e => exact rfl)) | with_reducible refine k_c ?_ | with_reducible refine k_op ?_ | with_reducible refine k_un ?_ | with_reducible refine k_test ?_ | with_reducible refine k_B ?_
  | with_reducible refine k_and ?_ | with_reducible refine k_or ?_ | with_reducible refine k_not ?_ | with_reducible refine k_andV ?_ | with_reducible refine k_orV ?_ | with_reducible refine k_notV ?_ | with_reducible refine k_if ?_
  | with_reducible refine k_nil ?_ | with_reducible refine k_cons ?_ | with_reducible refine k_tup ?_ | with_reducible refine k_lst ?_ | with_reducible refine k_call ?_ | with_reducible refine k_cb ?_ | with_reducible refine k_ck ?_
  | with_reducible refine k_par ?_ | with_reducible refine k_par1 ?_ | with_reducible refine k_tr ?_ | with_reducible refine k_rI0 ?_ | with_reducible refine k_rU ?_
  | with_reducible refine k_gN ?_ | with_reducible refine k_gS ?_ | with_reducible refine k_gNil ?_ | with_reducible refine k_gCons ?_ | with_reducible refine k_bm0 ?_ | with_reducible refine k_bm ?_
  | with_reducible refine k_for ?_ | with_reducible refine k_iL ?_ | with_reducible refine k_iT ?_ | with_reducible refine k_iR1 ?_ | ((with_reducible refine k_iR1i ?e ?_); (case e => first | decide | exact ⟨by omega, by omega⟩))
  | with_reducible refine k_max ?_ | with_reducible refine k_isB ?_ | with_reducible refine k_sl ?_ | with_reducible refine k_noP ?_ | with_reducible refine k_part ?_ | with_reducible refine k_partI ?_ | with_reducible refine k_revL ?_
  | ((with_reducible refine' k_ixqT ?e ?f ?_); (case e => walk_at "sq"); (case f => first | exact rfl | exact atI_head))
  | ((with_reducible refine' k_ixqL ?e ?f ?_); (case e => walk_at "sq"); (case f => first | exact rfl | exact atI_head))
  | ((with_reducible refine' k_lenL ?e ?_); (case e => walk_at "sq"))
  | ((with_reducible refine' k_lenT ?e ?_); (case e => walk_at "sq"))
  | ((with_reducible refine' k_ixL ?e ?f ?_); (case e => walk_at "sq"); (case f => first | exact rfl | exact atI_head))
  | ((with_reducible refine' k_ixT ?e ?f ?_); (case e => walk_at "sq"); (case f => first | exact rfl | exact atI_head))
  | ((with_reducible refine k_eq ?e ?_); (case e => exact rfl)) | ((with_reducible refine k_ne ?e ?_); (case e => exact rfl))
  | ((with_reducible refine k_rI ?e ?_); (case e => first | assumption | omega | decide | exact ⟨by omega, by omega⟩ | exact .inl ⟨by omega, by omega⟩ | exact .inr ⟨by omega, by omega⟩)))
local macro_rules | `(tactic| walk_at "rd") => `(tactic| repeat walk_at "r1")
-- steps end
section
variable {P : Program} {w : World} {K : PySem.W.Frag} {mg : Str → Option Value} {g0 : Heap}
def RowAt (H : Hp) (a : Addr) (n v : Int) : Prop := H a = some (.tup [.int n, .int v])
def RoadAt (H : Hp) (p : Addr) (r : Str) : Prop := ∃ rest, H p = some (.tup (.str r :: rest))
theorem RowAt.same {H H' : Hp} {a : Addr} {n v : Int} (h : RowAt H a n v) (s : Same H H') : RowAt H' a n v := s _ _ h
theorem RoadAt.same {H H' : Hp} {p : Addr} {r : Str} (h : RoadAt H p r) (s : Same H H') : RoadAt H' p r := let ⟨x, e⟩ := h; ⟨x, s _ _ e⟩
theorem RowAt.ext {M : Addr → Prop} {H H' : Hp} {a : Addr} {n v : Int} (h : RowAt H a n v) (s : Ext M H H') : RowAt H' a n v := s.1 _ _ h
theorem RoadAt.ext {M : Addr → Prop} {H H' : Hp} {p : Addr} {r : Str} (h : RoadAt H p r) (s : Ext M H H') : RoadAt H' p r := let ⟨x, e⟩ := h; ⟨x, s.1 _ _ e⟩

def spFirst : Sp := fun vs H Q _ => ∃ (p a b : Addr) (r : Str) (rest : List V) (x1 x2 y1 y2 : Int), vs = [.ref p, .ref a, .ref b] ∧ H p = some (.tup (.str r :: rest)) ∧
  H a = some (.tup [.int x1, .int x2]) ∧ H b = some (.tup [.int y1, .int y2]) ∧ Q (.bl (if r = "down" then HT.lexLt [y1, y2] [x1, x2] else HT.lexLt [x1, x2] [y1, y2])) H
theorem ok_first {f : Addr} {fd : FuncData} (F : Fun K "comes_first" "comes_first" s_comes_first f fd) : GOk P w K mg g0 CX0 1 f fd ["path", "place", "other"] spFirst := by
  have nd := sc_comes_first.nd
  refine okG F sc_comes_first (fun vs H Q E h => ?_) (fun cdv A up s H vs Q E qt hr h => ?_)
  · obtain ⟨p, a, b, r, rest, x1, x2, y1, y2, rfl, _⟩ := h
    rfl
  · obtain ⟨p, a, b, r, rest, x1, x2, y1, y2, rfl, hp, ha, hb, k⟩ := h
    refine ⟨_, (pss_one (ps_ret (pe_ifExp (pt_cmpR op_eq (pe_ix ix_seq (pv 0) pe_int (fun _ _ => rfl)) pe_str (nomark _)) (pe_cmpR (op_gtT hr.units) (pv 1) (pv 2) (nomark _)) (pe_cmpR (op_ltT hr.units0) (pv 1) (pv 2) (nomark _))))), ?_⟩
    walk_at "rd"
    refine k_iteD (fun e => ?_) (fun e => ?_)
    · walk_at "rd"
      refine k_gtT (ns := [x1, x2]) (ms := [y1, y2]) (SqT.of ha) (SqT.of hb) ?_
      rw [if_pos (V.str.inj e)] at k
      exact k
    · walk_at "rd"
      refine k_ltT (ns := [x1, x2]) (ms := [y1, y2]) (SqT.of ha) (SqT.of hb) ?_
      rw [if_neg (fun z => e (congrArg V.str z))] at k
      exact k

def spAhead : Sp := fun vs H Q _ => ∃ (p a b : Addr) (r : Str) (n v m u : Int), vs = [.ref p, .ref a, .ref b] ∧ RoadAt H p r ∧ RowAt H a n v ∧ RowAt H b m u ∧
  ∀ H', Same H H' → Q (.bl (before r n v m u)) H'
theorem ok_ahead {f : Addr} {fd : FuncData} (F : Fun K "is_ahead" "is_ahead" s_is_ahead f fd)
    (C_comes_first : Cal P w K mg g0 "comes_first" 1 ["path", "place", "other"] spFirst) : GOk P w K mg g0 CX0 2 f fd ["path", "one", "other"] spAhead := by
  have nd := sc_is_ahead.nd
  refine okG F sc_is_ahead (fun vs H Q E h => ?_) (fun cdv A up s H vs Q E qt hr h => ?_)
  · obtain ⟨p, a, b, r, n, v, m, u, rfl, _⟩ := h
    rfl
  · obtain ⟨p, a, b, r, n, v, m, u, rfl, ⟨rest, hp⟩, ha, hb, k⟩ := h
    refine ⟨_, (pss_cons (ps_if (pt_cmpR op_eq (pe_ix ix_seq (pv 0) pe_int (fun _ _ => rfl)) pe_str (nomark _)) (pss_one (ps_ret (pe_cmpR op_lt (pe_ix ix_seq (pv 1) pe_int (fun _ _ => rfl)) (pe_ix ix_seq (pv 2) pe_int (fun _ _ => rfl)) (nomark _)))) pss_nil)
        (pss_one (ps_ret (pe_c C_comes_first qt (hr.mono (by decide)) (pa_cons (pv 0) (pa_cons (pe_tup (pa_cons (pe_ix ix_seq (pv 1) pe_int (fun _ _ => rfl)) (pa_cons (pe_ix ix_seq (pv 1) pe_int (fun _ _ => rfl)) pa_nil))) (pa_cons (pe_tup (pa_cons (pe_ix ix_seq (pv 2) pe_int (fun _ _ => rfl)) (pa_cons (pe_ix ix_seq (pv 2) pe_int (fun _ _ => rfl)) pa_nil))) pa_nil))))))), ?_⟩
    unfold RowAt at ha hb
    unfold before at k
    walk_at "rd"
    refine k_iteD (fun e => ?_) (fun e => ?_)
    · walk_at "rd"
      rw [if_pos (V.str.inj e)] at k
      exact k _ (Same.refl _)
    · walk_at "rd"
      refine ⟨k_sz rfl, fun q hq => ?_⟩
      walk_at "rd"
      refine ⟨k_sz rfl, fun t ht => ?_⟩
      walk_at "rd"
      refine ⟨p, q, t, r, rest, v, n, u, m, rfl, by walk_at "lk", by walk_at "lk", by walk_at "lk", ?_⟩
      rw [if_neg (fun z => e (congrArg V.str z))] at k
      exact k _ ((Same.upd hq).trans (Same.upd ht))

def spDue : Sp := fun vs H Q _ => ∃ (p a b : Addr) (r : Str) (n v m u : Int), vs = [.ref p, .ref a, .ref b] ∧ Road r ∧ RoadAt H p r ∧ RowAt H a n v ∧ RowAt H b m u ∧
  Q (.bl (before r n v m u)) H
theorem ok_due {f : Addr} {fd : FuncData} (F : Fun K "_law_due" "_law_due" s_due f fd) : GOk P w K mg g0 CX0 1 f fd ["_law_road", "_law_near_here", "_law_far"] spDue := by
  have nd := sc_due.nd
  refine okG F sc_due (fun vs H Q E h => ?_) (fun cdv A up s H vs Q E qt hr h => ?_)
  · obtain ⟨p, a, b, r, n, v, m, u, rfl, _⟩ := h
    rfl
  · obtain ⟨p, a, b, r, n, v, m, u, rfl, hR, ⟨rest, hp⟩, ha, hb, k⟩ := h
    refine ⟨_, (pss_cons (ps_if (pt_cmpR op_eq (pe_ix ix_seq (pv 0) pe_int (fun _ _ => rfl)) pe_str (nomark _)) (pss_one (ps_ret (pe_cmpR op_lt (pe_ix ix_seq (pv 1) pe_int (fun _ _ => rfl)) (pe_ix ix_seq (pv 2) pe_int (fun _ _ => rfl)) (nomark _)))) pss_nil)
        (pss_cons (ps_set (i := 3) nd rfl (Or.inl rfl) (pe_cmpR op_eq (pe_ix ix_seq (pv 0) pe_int (fun _ _ => rfl)) pe_str (nomark _)))
        (pss_cons (ps_if (pt_cmpR op_ne (pe_ix ix_seq (pv 1) pe_int (fun _ _ => rfl)) (pe_ix ix_seq (pv 2) pe_int (fun _ _ => rfl)) (nomark _)) (pss_one (ps_ret (pe_cmpR op_eq (pe_cmpR op_lt (pe_ix ix_seq (pv 1) pe_int (fun _ _ => rfl)) (pe_ix ix_seq (pv 2) pe_int (fun _ _ => rfl)) (nomark _)) (pv 3) (nomark _)))) pss_nil)
        (pss_one (ps_ret (pe_and (pe_cmpR op_ne (pe_ix ix_seq (pv 1) pe_int (fun _ _ => rfl)) (pe_ix ix_seq (pv 2) pe_int (fun _ _ => rfl)) (nomark _)) (pe_one (pe_cmpR op_eq (pe_cmpR op_lt (pe_ix ix_seq (pv 1) pe_int (fun _ _ => rfl)) (pe_ix ix_seq (pv 2) pe_int (fun _ _ => rfl)) (nomark _)) (pv 3) (nomark _))))))))), ?_⟩
    unfold RowAt at ha hb
    unfold before at k
    rw [lex2, lex2] at k
    walk_at "rd"
    refine k_iteD (fun e => ?_) (fun e => ?_)
    · walk_at "rd"
      rw [if_pos (V.str.inj e)] at k
      exact k
    · rw [if_neg (fun z => e (congrArg V.str z))] at k
      walk_at "rd"
      refine k_ite (fun g => ?_) (fun g => ?_)
      · have g' : ¬ v = u := by simpa using g
        walk_at "rd"
        rcases hR with rfl | rfl | rfl
        · exact absurd rfl e
        · rw [if_neg up_down, if_neg g'] at k
          simpa using k
        · rw [if_pos rfl, if_neg (Ne.symm g')] at k
          have z : decide (V.bl (decide (v < u)) = V.bl (decide (V.str ("down" : Str) = V.str "up"))) = decide (u < v) := by
            rw [decide_eq_false (fun z => down_up (V.str.inj z))]
            rw [Bool.eq_iff_iff]
            simp only [decide_eq_true_eq, V.bl.injEq, decide_eq_false_iff_not]
            omega
          rw [z]
          exact k
      · have g' : v = u := by simpa using g
        walk_at "rd"
        refine k_ite (fun l => ?_) (fun l => ?_)
        · have l' : ¬ n = m := by simpa using l
          walk_at "rd"
          rcases hR with rfl | rfl | rfl
          · exact absurd rfl e
          · rw [if_neg up_down, if_pos g'] at k
            simpa using k
          · rw [if_pos rfl, if_pos g'.symm] at k
            have z : decide (V.bl (decide (n < m)) = V.bl (decide (V.str ("down" : Str) = V.str "up"))) = decide (m < n) := by
              rw [decide_eq_false (fun z => down_up (V.str.inj z))]
              rw [Bool.eq_iff_iff]
              simp only [decide_eq_true_eq, V.bl.injEq, decide_eq_false_iff_not]
              omega
            rw [z]
            exact k
        · have l' : n = m := by simpa using l
          subst l'
          subst g'
          simpa using k
end
end K20

set_option Elab.async false
set_option maxRecDepth 100000
set_option maxHeartbeats 4000000
namespace K20
open PySem PySem.Spec PyProof.Rows L2 Own
-- steps
local macro_rules | `(tactic| walk_at "lk") => `(tactic| first
  | assumption | exact upd_same
  | ((with_reducible refine' lk_new ?e (by assumption)); (case e => walk_at "lk"))
  | ((with_reducible refine' lk_ext (by assumption) ?e); (case e => walk_at "lk"))
  | ((with_reducible refine' lk_same (by assumption) ?e); (case e => walk_at "lk")))
local macro_rules | `(tactic| walk_at "sq") => `(tactic| first | assumption | exact SqL.of (by walk_at "lk") | exact SqT.of (by walk_at "lk"))
local macro_rules | `(tactic| walk_at "r1") => `(tactic| first
  | with_reducible refine k_seq ?_ | with_reducible refine k_asg ?_ | with_reducible refine k_ret ?_ | with_reducible refine k_drop ?_ | with_reducible refine k_next ?_ | with_reducible refine k_ifS ?_
  | ((with_reducible refine' k_var ?e ?_); (case e => exact rfl)) | with_reducible refine k_c ?_ | with_reducible refine k_op ?_ | with_reducible refine k_un ?_ | with_reducible refine k_test ?_ | with_reducible refine k_B ?_
  | with_reducible refine k_and ?_ | with_reducible refine k_or ?_ | with_reducible refine k_not ?_ | with_reducible refine k_andV ?_ | with_reducible refine k_orV ?_ | with_reducible refine k_notV ?_ | with_reducible refine k_if ?_
  | with_reducible refine k_nil ?_ | with_reducible refine k_cons ?_ | with_reducible refine k_tup ?_ | with_reducible refine k_lst ?_ | with_reducible refine k_call ?_ | with_reducible refine k_cb ?_ | with_reducible refine k_ck ?_
  | with_reducible refine k_par ?_ | with_reducible refine k_par1 ?_ | with_reducible refine k_tr ?_ | with_reducible refine k_rI0 ?_ | with_reducible refine k_rU ?_
  | with_reducible refine k_gN ?_ | with_reducible refine k_gS ?_ | with_reducible refine k_gNil ?_ | with_reducible refine k_gCons ?_ | with_reducible refine k_bm0 ?_ | with_reducible refine k_bm ?_
  | with_reducible refine k_for ?_ | with_reducible refine k_iL ?_ | with_reducible refine k_iT ?_ | with_reducible refine k_iR1 ?_ | ((with_reducible refine k_iR1i ?e ?_); (case e => first | decide | exact ⟨by omega, by omega⟩))
  | with_reducible refine k_max ?_ | with_reducible refine k_isB ?_ | with_reducible refine k_sl ?_ | with_reducible refine k_noP ?_ | with_reducible refine k_part ?_ | with_reducible refine k_partI ?_ | with_reducible refine k_revL ?_
  | ((with_reducible refine' k_ixqT ?e ?f ?_); (case e => walk_at "sq"); (case f => first | exact rfl | exact atI_head))
  | ((with_reducible refine' k_ixqL ?e ?f ?_); (case e => walk_at "sq"); (case f => first | exact rfl | exact atI_head))
  | ((with_reducible refine' k_lenL ?e ?_); (case e => walk_at "sq"))
  | ((with_reducible refine' k_lenT ?e ?_); (case e => walk_at "sq"))
  | ((with_reducible refine' k_ixL ?e ?f ?_); (case e => walk_at "sq"); (case f => first | exact rfl | exact atI_head))
  | ((with_reducible refine' k_ixT ?e ?f ?_); (case e => walk_at "sq"); (case f => first | exact rfl | exact atI_head))
  | ((with_reducible refine k_eq ?e ?_); (case e => exact rfl)) | ((with_reducible refine k_ne ?e ?_); (case e => exact rfl))
  | ((with_reducible refine k_rI ?e ?_); (case e => first | assumption | omega | decide | exact ⟨by omega, by omega⟩ | exact .inl ⟨by omega, by omega⟩ | exact .inr ⟨by omega, by omega⟩)))
local macro_rules | `(tactic| walk_at "rd") => `(tactic| repeat walk_at "r1")
-- steps end
section
variable {P : Program} {w : World} {K : PySem.W.Frag} {mg : Str → Option Value} {g0 : Heap}
theorem two_small (x : Bool) : (PyData.list [.bool x, .bool x]).shown.length ≤ sizeLine := by cases x <;> decide +kernel

def spPair : Sp := fun vs H Q _ => ∃ (p a b : Addr) (r : Str) (n v m u : Int), vs = [.ref p, .ref a, .ref b] ∧ Road r ∧ RoadAt H p r ∧ RowAt H a n v ∧ RowAt H b m u ∧
  ∀ H', Same H H' → Q (.bl true) H'
abbrev CallAhead (P : Program) (w : World) (K : PySem.W.Frag) (mg : Str → Option Value) (g0 : Heap) : Prop :=
  CalK P w K mg g0 "is_ahead" 2 ["path", "one", "other"] 0 ["other", "one", "path"] (fun _ zs => match zs with | [o, n, p] => [p, n, o] | _ => []) spAhead
theorem ok_pair {f : Addr} {fd : FuncData} (F : Fun K "_law_pair_right" "_law_pair_right" s_pair_right f fd) (z_repr : mg "repr" = none)
    (C_is_ahead : Cal P w K mg g0 "is_ahead" 2 ["path", "one", "other"] spAhead) (CK_is_ahead : CallAhead P w K mg g0)
    (C_due : Cal P w K mg g0 "_law_due" 1 ["_law_road", "_law_near_here", "_law_far"] spDue) :
    GOk P w K mg g0 CX0 3 f fd ["_law_road", "_law_near_here", "_law_far"] spPair := by
  have nd := sc_pair_right.nd
  refine okG F sc_pair_right (fun vs H Q E h => ?_) (fun cdv A up s H vs Q E qt hr h => ?_)
  · obtain ⟨p, a, b, r, n, v, m, u, rfl, _⟩ := h
    rfl
  · obtain ⟨p, a, b, r, n, v, m, u, rfl, hR, hp, ha, hb, k⟩ := h
    refine ⟨_, (pss_cons (ps_for PassesOwn.never rfl (pi_tup (pe_tup (pa_cons (pe_tup (pa_cons (pv 1) (pa_cons (pv 2) pa_nil))) (pa_cons (pe_tup (pa_cons (pv 2) (pa_cons (pv 1) pa_nil))) (pa_cons (pe_tup (pa_cons (pv 1) (pa_cons (pv 1) pa_nil))) (pa_cons (pe_tup (pa_cons (pv 2) (pa_cons (pv 2) pa_nil))) pa_nil)))))) (pg_tup rfl (pgs_cons (pg_name (i := 4) nd rfl (Or.inl rfl)) (pgs_cons (pg_name (i := 5) nd rfl (Or.inl rfl)) pgs_nil))) (pss_cons (ps_set (i := 6) nd rfl (Or.inl rfl) (pe_c C_due qt (hr.mono (by decide)) (pa_cons (pv 0) (pa_cons (pv 4) (pa_cons (pv 5) pa_nil)))))
        (pss_cons (ps_set (i := 7) nd rfl (Or.inl rfl) (pe_lst (pa_cons (pe_c C_is_ahead qt (hr.mono (by decide)) (pa_cons (pv 0) (pa_cons (pv 4) (pa_cons (pv 5) pa_nil)))) (pa_cons (pe_ck0 CK_is_ahead qt (hr.mono (by decide)) (pk_cons (pv 5) (pk_cons (pv 4) (pk_cons (pv 0) pk_nil)))) pa_nil))))
        (pss_one (ps_if (pt_cmpR op_ne (pe_callB (call_repr qt hr.units) (by rfl) z_repr (by decide +kernel) (pa_cons (pv 7) pa_nil)) (pe_callB (call_repr qt hr.units) (by rfl) z_repr (by decide +kernel) (pa_cons (pe_lst (pa_cons (pv 6) (pa_cons (pv 6) pa_nil))) pa_nil)) (nomark _)) (pss_one (ps_ret pe_bl)) pss_nil)))))
        (Evl.pss_cut (ps_set (i := 3) nd rfl (Or.inl rfl) (pe_or (pe_cmpR op_ne (pe_ix ix_seq (pv 1) pe_int (fun _ _ => rfl)) (pe_ix ix_seq (pv 2) pe_int (fun _ _ => rfl)) (nomark _)) (pe_one (pe_and (pe_cmpR op_ne (pe_ix ix_seq (pv 0) pe_int (fun _ _ => rfl)) pe_str (nomark _)) (pe_one (pe_cmpR op_ne (pe_ix ix_seq (pv 1) pe_int (fun _ _ => rfl)) (pe_ix ix_seq (pv 2) pe_int (fun _ _ => rfl)) (nomark _)))))))
        (pss_one (ps_ret (pe_cmpR op_eq (pe_or (pe_c C_is_ahead qt (hr.mono (by decide)) (pa_cons (pv 0) (pa_cons (pv 1) (pa_cons (pv 2) pa_nil)))) (pe_one (pe_c C_is_ahead qt (hr.mono (by decide)) (pa_cons (pv 0) (pa_cons (pv 2) (pa_cons (pv 1) pa_nil)))))) (pv 3) (nomark _)))))), ?_⟩
    walk_at "rd"
    refine ⟨k_sz rfl, fun t1 h1 => ?_⟩
    walk_at "rd"
    refine ⟨k_sz rfl, fun t2 h2 => ?_⟩
    walk_at "rd"
    refine ⟨k_sz rfl, fun t3 h3 => ?_⟩
    walk_at "rd"
    refine ⟨k_sz rfl, fun t4 h4 => ?_⟩
    walk_at "rd"
    refine ⟨k_sz rfl, fun t5 h5 => ?_⟩
    have s5 := ((((Same.upd (o := .tup [V.ref a, V.ref b]) h1).trans (Same.upd (o := .tup [V.ref b, V.ref a]) h2)).trans (Same.upd (o := .tup [V.ref a, V.ref a]) h3)).trans
      (Same.upd (o := .tup [V.ref b, V.ref b]) h4)).trans (Same.upd (o := .tup [V.ref t1, V.ref t2, V.ref t3, V.ref t4]) h5)
    have e1 := lk_new (o := .tup [V.ref t1, V.ref t2, V.ref t3, V.ref t4]) (lk_new (o := .tup [V.ref b, V.ref b]) (lk_new (o := .tup [V.ref a, V.ref a]) (lk_new (o := .tup [V.ref b, V.ref a]) (upd_same (H := H) (a := t1) (o := .tup [V.ref a, V.ref b])) h2) h3) h4) h5
    have e2 := lk_new (o := .tup [V.ref t1, V.ref t2, V.ref t3, V.ref t4]) (lk_new (o := .tup [V.ref b, V.ref b]) (lk_new (o := .tup [V.ref a, V.ref a]) (upd_same (H := (upd H t1 (.tup [V.ref a, V.ref b]))) (a := t2) (o := .tup [V.ref b, V.ref a])) h3) h4) h5
    have e3 := lk_new (o := .tup [V.ref t1, V.ref t2, V.ref t3, V.ref t4]) (lk_new (o := .tup [V.ref b, V.ref b]) (upd_same (H := (upd (upd H t1 (.tup [V.ref a, V.ref b])) t2 (.tup [V.ref b, V.ref a]))) (a := t3) (o := .tup [V.ref a, V.ref a])) h4) h5
    have e4 := lk_new (o := .tup [V.ref t1, V.ref t2, V.ref t3, V.ref t4]) (upd_same (H := (upd (upd (upd H t1 (.tup [V.ref a, V.ref b])) t2 (.tup [V.ref b, V.ref a])) t3 (.tup [V.ref a, V.ref a]))) (a := t4) (o := .tup [V.ref b, V.ref b])) h5
    have e5 := upd_same (H := (upd (upd (upd (upd H t1 (.tup [V.ref a, V.ref b])) t2 (.tup [V.ref b, V.ref a])) t3 (.tup [V.ref a, V.ref a])) t4 (.tup [V.ref b, V.ref b]))) (a := t5) (o := .tup [V.ref t1, V.ref t2, V.ref t3, V.ref t4])
    generalize (upd (upd (upd (upd (upd H t1 (.tup [V.ref a, V.ref b])) t2 (.tup [V.ref b, V.ref a])) t3 (.tup [V.ref a, V.ref a])) t4 (.tup [V.ref b, V.ref b])) t5 (.tup [V.ref t1, V.ref t2, V.ref t3, V.ref t4])) = H5 at s5 e1 e2 e3 e4 e5 ⊢
    have hp5 := hp.same s5
    have ha5 := ha.same s5
    have hb5 := hb.same s5
    let Pv : Nat → L2.St → Hp → Prop := fun i σ H' => Same H5 H' ∧ ∃ o1 o2 o3 o4 : Option V, σ = [some (.ref p), some (.ref a), some (.ref b), none, o1, o2, o3, o4]
    have rows : ∀ x ∈ [V.ref t1, V.ref t2, V.ref t3, V.ref t4], ∃ t y z n1 v1 m1 u1, x = V.ref t ∧ H5 t = some (.tup [.ref y, .ref z]) ∧ RowAt H5 y n1 v1 ∧ RowAt H5 z m1 u1 := by
      intro x hx
      simp only [List.mem_cons, List.not_mem_nil, or_false] at hx
      rcases hx with rfl | rfl | rfl | rfl
      · exact ⟨_, _, _, _, _, _, _, rfl, e1, ha5, hb5⟩
      · exact ⟨_, _, _, _, _, _, _, rfl, e2, hb5, ha5⟩
      · exact ⟨_, _, _, _, _, _, _, rfl, e3, ha5, ha5⟩
      · exact ⟨_, _, _, _, _, _, _, rfl, e4, hb5, hb5⟩
    refine ⟨t5, rfl, ⟨_, SqT.of e5⟩, for_tup (xs := [V.ref t1, V.ref t2, V.ref t3, V.ref t4]) Pv ⟨Same.refl _, _, _, _, _, rfl⟩ (fun i σ H' _ h => ?_) (fun i x σ H' hx h => ?_) (fun σ H' h => ?_)⟩
    · exact SqT.of (h.1 _ _ e5)
    · obtain ⟨s6, o1, o2, o3, o4, rfl⟩ := h
      obtain ⟨t, y, z, n1, v1, m1, u1, rfl, ht, hy, hz⟩ := rows x (List.mem_of_getElem? hx)
      refine k_gTup (SqT.of (s6 _ _ ht)) rfl ?_
      walk_at "rd"
      refine ⟨p, y, z, r, n1, v1, m1, u1, rfl, hR, hp5.same s6, hy.same s6, hz.same s6, ?_⟩
      walk_at "rd"
      refine ⟨p, y, z, r, n1, v1, m1, u1, rfl, hp5.same s6, hy.same s6, hz.same s6, fun H6 s7 => ?_⟩
      walk_at "rd"
      refine ⟨rfl, rfl, p, y, z, r, n1, v1, m1, u1, rfl, (hp5.same s6).same s7, (hy.same s6).same s7, (hz.same s6).same s7, fun H7 s8 => ?_⟩
      walk_at "rd"
      refine ⟨k_sz rfl, fun q hq => ?_⟩
      walk_at "rd"
      have hq8 : upd H7 q (.lst [V.bl (before r n1 v1 m1 u1), V.bl (before r n1 v1 m1 u1)]) q = some (.lst [V.bl (before r n1 v1 m1 u1), V.bl (before r n1 v1 m1 u1)]) := upd_same
      have s9 := ((s6.trans s7).trans s8).trans (Same.upd (o := .lst [V.bl (before r n1 v1 m1 u1), V.bl (before r n1 v1 m1 u1)]) hq)
      generalize upd H7 q (.lst [V.bl (before r n1 v1 m1 u1), V.bl (before r n1 v1 m1 u1)]) = H8 at hq8 s9 ⊢
      refine ⟨_, .list [.bool (before r n1 v1 m1 u1), .bool (before r n1 v1 m1 u1)], rfl, .lst (SqL.of hq8) (.cons (.bl _) (.cons (.bl _) .nil)), rfl, Nat.le_of_ble_eq_true rfl, two_small _, ?_⟩
      walk_at "rd"
      refine ⟨k_sz rfl, fun q2 hq2 => ?_⟩
      walk_at "rd"
      refine ⟨_, .list [.bool (before r n1 v1 m1 u1), .bool (before r n1 v1 m1 u1)], rfl, .lst (SqL.of upd_same) (.cons (.bl _) (.cons (.bl _) .nil)), rfl, Nat.le_of_ble_eq_true rfl, two_small _, ?_⟩
      walk_at "rd"
      refine iteNS rfl ?_
      walk_at "rd"
      exact ⟨s9.trans (Same.upd hq2), _, _, _, _, rfl⟩
    · obtain ⟨s6, o1, o2, o3, o4, rfl⟩ := h
      obtain ⟨rest, hp6⟩ := id (hp5.same s6)
      have ha6 : RowAt H' a n v := ha5.same s6
      have hb6 : RowAt H' b m u := hb5.same s6
      have hor := before_or r hR n v m u
      unfold RowAt at ha6 hb6
      refine k_seq ?_
      refine ⟨fun σ2 H2 => H2 = H' ∧ ∃ x : Bool, x = (!decide (n = m) || (!decide (r = "heap") && !decide (v = u))) ∧ σ2 = [some (V.ref p), some (V.ref a), some (V.ref b), some (V.bl x), o1, o2, o3, o4], ?_, ?_⟩
      · walk_at "rd"
        refine k_ite (fun c => ?_) (fun c => ?_)
        · walk_at "rd"
          have c' : ¬ n = m := by simpa using c
          exact ⟨rfl, true, by simp [c'], rfl⟩
        · have c' : n = m := by simpa using c
          walk_at "rd"
          refine k_ite (fun c2 => ?_) (fun c2 => ?_)
          · walk_at "rd"
            have c3 : ¬ r = "heap" := by simpa using c2
            exact ⟨rfl, _, by simp [c', c3], rfl⟩
          · walk_at "rd"
            have c3 : r = "heap" := by simpa using c2
            exact ⟨rfl, _, by simp [c', c3], rfl⟩
      · rintro σ2 H2 ⟨rfl, x, hx, rfl⟩
        walk_at "rd"
        refine ⟨p, a, b, r, n, v, m, u, rfl, ⟨rest, hp6⟩, ha6, hb6, fun H6 s7 => ?_⟩
        refine k_tr ?_
        refine k_ite (fun c => ?_) (fun c => ?_)
        · walk_at "rd"
          rw [c, Bool.true_or, ← hx] at hor
          rw [← hor]
          simpa using k _ ((s5.trans s6).trans s7)
        · walk_at "rd"
          refine ⟨p, b, a, r, m, u, n, v, rfl, ⟨rest, s7 _ _ hp6⟩, s7 _ _ hb6, s7 _ _ ha6, fun H7 s8 => ?_⟩
          walk_at "rd"
          rw [c, Bool.false_or, ← hx] at hor
          rw [← hor]
          simpa using k _ (((s5.trans s6).trans s7).trans s8)
end
end K20

set_option Elab.async false
set_option maxRecDepth 100000
set_option maxHeartbeats 4000000
namespace K20
open PySem PySem.Spec PyProof.Rows L2 Own
-- steps
local macro_rules | `(tactic| walk_at "lk") => `(tactic| first
  | assumption | exact upd_same
  | ((with_reducible refine' lk_new ?e (by assumption)); (case e => walk_at "lk"))
  | ((with_reducible refine' lk_ext (by assumption) ?e); (case e => walk_at "lk"))
  | ((with_reducible refine' lk_same (by assumption) ?e); (case e => walk_at "lk")))
local macro_rules | `(tactic| walk_at "sq") => `(tactic| first | assumption | exact SqL.of (by walk_at "lk") | exact SqT.of (by walk_at "lk"))
local macro_rules | `(tactic| walk_at "r1") => `(tactic| first
  | with_reducible refine k_seq ?_ | with_reducible refine k_asg ?_ | with_reducible refine k_ret ?_ | with_reducible refine k_drop ?_ | with_reducible refine k_next ?_ | with_reducible refine k_ifS ?_
  | ((with_reducible refine' k_var ?e ?_); (case e => exact rfl)) | with_reducible refine k_c ?_ | with_reducible refine k_op ?_ | with_reducible refine k_un ?_ | with_reducible refine k_test ?_ | with_reducible refine k_B ?_
  | with_reducible refine k_and ?_ | with_reducible refine k_or ?_ | with_reducible refine k_not ?_ | with_reducible refine k_andV ?_ | with_reducible refine k_orV ?_ | with_reducible refine k_notV ?_ | with_reducible refine k_if ?_
  | with_reducible refine k_nil ?_ | with_reducible refine k_cons ?_ | with_reducible refine k_tup ?_ | with_reducible refine k_lst ?_ | with_reducible refine k_call ?_ | with_reducible refine k_cb ?_ | with_reducible refine k_ck ?_
  | with_reducible refine k_par ?_ | with_reducible refine k_par1 ?_ | with_reducible refine k_tr ?_ | with_reducible refine k_rI0 ?_ | with_reducible refine k_rU ?_
  | with_reducible refine k_gN ?_ | with_reducible refine k_gS ?_ | with_reducible refine k_gNil ?_ | with_reducible refine k_gCons ?_ | with_reducible refine k_bm0 ?_ | with_reducible refine k_bm ?_
  | with_reducible refine k_for ?_ | with_reducible refine k_iL ?_ | with_reducible refine k_iT ?_ | with_reducible refine k_iR1 ?_ | ((with_reducible refine k_iR1i ?e ?_); (case e => first | decide | exact ⟨by omega, by omega⟩))
  | with_reducible refine k_max ?_ | with_reducible refine k_isB ?_ | with_reducible refine k_sl ?_ | with_reducible refine k_noP ?_ | with_reducible refine k_part ?_ | with_reducible refine k_partI ?_ | with_reducible refine k_revL ?_
  | ((with_reducible refine' k_ixqT ?e ?f ?_); (case e => walk_at "sq"); (case f => first | exact rfl | exact atI_head))
  | ((with_reducible refine' k_ixqL ?e ?f ?_); (case e => walk_at "sq"); (case f => first | exact rfl | exact atI_head))
  | ((with_reducible refine' k_lenL ?e ?_); (case e => walk_at "sq"))
  | ((with_reducible refine' k_lenT ?e ?_); (case e => walk_at "sq"))
  | ((with_reducible refine' k_ixL ?e ?f ?_); (case e => walk_at "sq"); (case f => first | exact rfl | exact atI_head))
  | ((with_reducible refine' k_ixT ?e ?f ?_); (case e => walk_at "sq"); (case f => first | exact rfl | exact atI_head))
  | ((with_reducible refine k_eq ?e ?_); (case e => exact rfl)) | ((with_reducible refine k_ne ?e ?_); (case e => exact rfl))
  | ((with_reducible refine k_rI ?e ?_); (case e => first | assumption | omega | decide | exact ⟨by omega, by omega⟩ | exact .inl ⟨by omega, by omega⟩ | exact .inr ⟨by omega, by omega⟩)))
local macro_rules | `(tactic| walk_at "rd") => `(tactic| repeat walk_at "r1")
-- steps end
section
variable {P : Program} {w : World} {K : PySem.W.Frag} {mg : Str → Option Value} {g0 : Heap}

def spChain : Sp := fun vs H Q _ => ∃ (p t a b c : Addr) (r : Str) (n v m u l x : Int), vs = [.ref p, .ref t] ∧ Road r ∧ RoadAt H p r ∧ H t = some (.tup [.ref a, .ref b, .ref c]) ∧
  RowAt H a n v ∧ RowAt H b m u ∧ RowAt H c l x ∧ ∀ H', Same H H' → Q (.bl true) H'
theorem ok_chain {f : Addr} {fd : FuncData} (F : Fun K "_law_chain_right" "_law_chain_right" s_chain_right f fd)
    (C_is_ahead : Cal P w K mg g0 "is_ahead" 2 ["path", "one", "other"] spAhead) :
    GOk P w K mg g0 CX0 3 f fd ["_law_road", "_law_rows"] spChain := by
  have nd := sc_chain_right.nd
  refine okG F sc_chain_right (fun vs H Q E h => ?_) (fun cdv A up s H vs Q E qt hr h => ?_)
  · obtain ⟨p, t, a, b, c, r, n, v, m, u, l, x, rfl, _⟩ := h
    rfl
  · obtain ⟨p, t, a, b, c, r, n, v, m, u, l, x, rfl, hR, hp, ht, ha, hb, hc, k⟩ := h
    refine ⟨_, (pss_cons (ps_asg (pv 1) (pg_tup rfl (pgs_cons (pg_name (i := 2) nd rfl (Or.inl rfl)) (pgs_cons (pg_name (i := 3) nd rfl (Or.inl rfl)) (pgs_cons (pg_name (i := 4) nd rfl (Or.inl rfl)) pgs_nil)))))
        (pss_cons (ps_if (PW.pt (pw_and (pt_val (pe_c C_is_ahead qt (hr.mono (by decide)) (pa_cons (pv 0) (pa_cons (pv 2) (pa_cons (pv 3) pa_nil))))) (pw_and1 (pt_val (pe_c C_is_ahead qt (hr.mono (by decide)) (pa_cons (pv 0) (pa_cons (pv 3) (pa_cons (pv 4) pa_nil)))))))) (pss_one (ps_ret (pe_cmpR op_isBl (pe_c C_is_ahead qt (hr.mono (by decide)) (pa_cons (pv 0) (pa_cons (pv 2) (pa_cons (pv 4) pa_nil)))) pe_bl (nomark _)))) pss_nil)
        (pss_one (ps_ret pe_bl)))), ?_⟩
    walk_at "rd"
    refine k_gTup (SqT.of ht) rfl ?_
    walk_at "rd"
    refine ⟨p, a, b, r, n, v, m, u, rfl, hp, ha, hb, fun H1 s1 => ?_⟩
    walk_at "rd"
    refine k_ite (fun c1 => ?_) (fun c1 => ?_)
    · walk_at "rd"
      refine ⟨p, b, c, r, m, u, l, x, rfl, hp.same s1, hb.same s1, hc.same s1, fun H2 s2 => ?_⟩
      walk_at "rd"
      refine k_ite (fun c2 => ?_) (fun c2 => ?_)
      · walk_at "rd"
        refine ⟨p, a, c, r, n, v, l, x, rfl, (hp.same s1).same s2, (ha.same s1).same s2, (hc.same s1).same s2, fun H3 s3 => ?_⟩
        walk_at "rd"
        rw [before_trans r hR n v m u l x c1 c2]
        exact k _ ((s1.trans s2).trans s3)
      · walk_at "rd"
        exact k _ (s1.trans s2)
    · refine k_ite (fun c2 => by cases c2) (fun c2 => ?_)
      walk_at "rd"
      exact k _ s1

def spRow : Sp := fun vs H Q _ => ∃ (d c : Addr) (b : Int), vs = [.ref d] ∧ Deck d c b H ∧ b ≤ 900000000 ∧
  ∀ (p : Addr) (n v : Int) (H' : Hp), RowAt H' p n v → Deck d c (b + 5) H' → Ext (Dk d c) H H' → Q (.ref p) H'
theorem ok_row {f : Addr} {fd : FuncData} (F : Fun K "_law_row" "_law_row" s_row f fd)
    (C_draw : Cal P w K mg g0 "_law_draw" 1 ["_law_deck_here", "_law_many"] spDraw)
    (C_pick : Cal P w K mg g0 "_law_pick" 2 ["_law_deck_here", "_law_some"] spPick) :
    GOk P w K mg g0 CX0 3 f fd ["_law_deck_here"] spRow := by
  have nd := sc_row.nd
  refine okG F sc_row (fun vs H Q E h => ?_) (fun cdv A up s H vs Q E qt hr h => ?_)
  · obtain ⟨d, c, b, rfl, _⟩ := h
    rfl
  · obtain ⟨d, c, b, rfl, D, hb, k⟩ := h
    refine ⟨_, (pss_cons (ps_set (i := 1) nd rfl (Or.inl rfl) (pe_op op_pow pe_int pe_int))
        (pss_cons (ps_set (i := 2) nd rfl (Or.inl rfl) (pe_lst (pa_cons pe_int (pa_cons pe_int (pa_cons pe_int (pa_cons (pe_un un_neg pe_int) (pa_cons pe_int (pa_cons (pe_c C_draw qt (hr.mono (by decide)) (pa_cons (pv 0) (pa_cons pe_int pa_nil))) (pa_cons (pv 1) (pa_cons (pe_un un_neg (pv 1)) (pa_cons (pe_op op_sub (pv 1) pe_int) (pa_cons (pe_c C_draw qt (hr.mono (by decide)) (pa_cons (pv 0) (pa_cons (pv 1) pa_nil))) pa_nil))))))))))))
        (pss_one (ps_ret (pe_tup (pa_cons (pe_c C_pick qt (hr.mono (by decide)) (pa_cons (pv 0) (pa_cons (pe_lst (pa_cons pe_int (pa_cons pe_int (pa_cons pe_int (pa_cons pe_int (pa_cons (pe_c C_draw qt (hr.mono (by decide)) (pa_cons (pv 0) (pa_cons pe_int pa_nil))) (pa_cons (pv 1) (pa_cons (pe_op op_sub (pv 1) pe_int) pa_nil)))))))) pa_nil))) (pa_cons (pe_c C_pick qt (hr.mono (by decide)) (pa_cons (pv 0) (pa_cons (pv 2) pa_nil))) pa_nil))))))), ?_⟩
    walk_at "rd"
    refine ⟨d, c, b, _, rfl, D, by omega, by decide, by decide, fun r1 H1 _ _ D1 x1 => ?_⟩
    walk_at "rd"
    refine ⟨d, c, _, _, rfl, D1, by omega, by decide, by decide, fun r2 H2 _ _ D2 x2 => ?_⟩
    walk_at "rd"
    refine ⟨k_sz rfl, fun p hp => ?_⟩
    have D3 := D2.new (o := .lst [V.int 0, V.int 0, V.int 1, V.int (-1), V.int 2, V.int r1, V.int (10 ^ Int.toNat 9), V.int (-10 ^ Int.toNat 9), V.int (10 ^ Int.toNat 9 - 1), V.int r2]) hp
    have np := D2.off hp
    have x3 := (x1.trans x2).trans (ext_new (o := .lst [V.int 0, V.int 0, V.int 1, V.int (-1), V.int 2, V.int r1, V.int (10 ^ Int.toNat 9), V.int (-10 ^ Int.toNat 9), V.int (10 ^ Int.toNat 9 - 1), V.int r2]) hp)
    have e3 : (upd H2 p (.lst [V.int 0, V.int 0, V.int 1, V.int (-1), V.int 2, V.int r1, V.int (10 ^ Int.toNat 9), V.int (-10 ^ Int.toNat 9), V.int (10 ^ Int.toNat 9 - 1), V.int r2])) p = _ := upd_same
    generalize (upd H2 p (.lst [V.int 0, V.int 0, V.int 1, V.int (-1), V.int 2, V.int r1, V.int (10 ^ Int.toNat 9), V.int (-10 ^ Int.toNat 9), V.int (10 ^ Int.toNat 9 - 1), V.int r2])) = H3 at D3 x3 e3 ⊢
    walk_at "rd"
    refine ⟨d, c, _, _, rfl, D3, by omega, by decide, by decide, fun r4 H4 _ _ D4 x4 => ?_⟩
    walk_at "rd"
    refine ⟨k_sz rfl, fun q hq => ?_⟩
    walk_at "rd"
    refine ⟨d, c, q, _, _, rfl, D4.new hq, by omega, D4.off hq, upd_same, k_ble (n := 1) rfl, k_ble rfl, fun y H5 hy D5 x5 => ?_⟩
    obtain ⟨n, rfl⟩ : ∃ n, y = V.int n := by
      simp only [List.mem_cons, List.not_mem_nil, or_false] at hy
      rcases hy with rfl | rfl | rfl | rfl | rfl | rfl | rfl <;> exact ⟨_, rfl⟩
    walk_at "rd"
    refine ⟨d, c, p, _, _, rfl, D5, by omega, np, x5.2 _ _ np (lk_new (x4.2 _ _ np e3) hq), k_ble (n := 1) rfl, k_ble rfl, fun y H6 hy D6 x6 => ?_⟩
    obtain ⟨v, rfl⟩ : ∃ n, y = V.int n := by
      simp only [List.mem_cons, List.not_mem_nil, or_false] at hy
      rcases hy with rfl | rfl | rfl | rfl | rfl | rfl | rfl | rfl | rfl | rfl <;> exact ⟨_, rfl⟩
    walk_at "rd"
    refine ⟨k_sz rfl, fun t ht => ?_⟩
    exact k t n v _ upd_same ((D6.new ht).mono (by omega)) ((((x3.trans x4).trans (ext_new hq)).trans (x5.trans x6)).trans (ext_new ht))

def spNear : Sp := fun vs H Q _ => ∃ (d c a : Addr) (b n v : Int), vs = [.ref d, .ref a] ∧ Deck d c b H ∧ b ≤ 900000000 ∧ RowAt H a n v ∧
  ∀ (p : Addr) (n v : Int) (H' : Hp), RowAt H' p n v → Deck d c (b + 2) H' → Ext (Dk d c) H H' → Q (.ref p) H'
theorem ok_near {f : Addr} {fd : FuncData} (F : Fun K "_law_near" "_law_near" s_near f fd) (z_max : mg "max" = none)
    (C_draw : Cal P w K mg g0 "_law_draw" 1 ["_law_deck_here", "_law_many"] spDraw) :
    GOk P w K mg g0 CX0 2 f fd ["_law_deck_here", "_law_row_here"] spNear := by
  have nd := sc_near.nd
  refine okG F sc_near (fun vs H Q E h => ?_) (fun cdv A up s H vs Q E qt hr h => ?_)
  · obtain ⟨d, c, a, b, n, v, rfl, _⟩ := h
    rfl
  · obtain ⟨d, c, a, b, n, v, rfl, D, hb, ha, k⟩ := h
    refine ⟨_, (pss_cons (ps_asg (pv 1) (pg_tup rfl (pgs_cons (pg_name (i := 2) nd rfl (Or.inl rfl)) (pgs_cons (pg_name (i := 3) nd rfl (Or.inl rfl)) pgs_nil))))
        (pss_one (ps_ret (pe_tup (pa_cons (pe_callB (c_max rfl) (by rfl) z_max (by decide +kernel) (pa_cons pe_int (pa_cons (pe_op op_sub (pe_op op_add (pv 2) (pe_c C_draw qt (hr.mono (by decide)) (pa_cons (pv 0) (pa_cons pe_int pa_nil)))) pe_int) pa_nil))) (pa_cons (pe_op op_sub (pe_op op_add (pv 3) (pe_c C_draw qt (hr.mono (by decide)) (pa_cons (pv 0) (pa_cons pe_int pa_nil)))) pe_int) pa_nil)))))), ?_⟩
    walk_at "rd"
    refine k_gTup (SqT.of ha) rfl ?_
    walk_at "rd"
    refine ⟨d, c, b, _, rfl, D, by omega, by decide, by decide, fun r1 H1 _ _ D1 x1 => ?_⟩
    walk_at "rd"
    refine ⟨d, c, _, _, rfl, D1, by omega, by decide, by decide, fun r2 H2 _ _ D2 x2 => ?_⟩
    walk_at "rd"
    refine ⟨k_sz rfl, fun t ht => ?_⟩
    exact k t _ _ _ upd_same ((D2.new ht).mono (by omega)) ((x1.trans x2).trans (ext_new ht))

def spPaths : Sp := fun vs H Q _ => ∃ (d c : Addr) (b : Int), vs = [.ref d] ∧ Deck d c b H ∧ b ≤ 900000000 ∧
  ∀ (l p1 p2 p3 : Addr) (H' : Hp), H' l = some (.lst [.ref p1, .ref p2, .ref p3]) → ¬ Dk d c l → RoadAt H' p1 "heap" → RoadAt H' p2 "up" → RoadAt H' p3 "down" →
    Deck d c (b + 1) H' → Ext (Dk d c) H H' → Q (.ref l) H'
theorem ok_paths {f : Addr} {fd : FuncData} (F : Fun K "_law_paths" "_law_paths" s_paths f fd)
    (C_pick : Cal P w K mg g0 "_law_pick" 2 ["_law_deck_here", "_law_some"] spPick) :
    GOk P w K mg g0 CX0 3 f fd ["_law_deck_here"] spPaths := by
  have nd := sc_paths.nd
  refine okG F sc_paths (fun vs H Q E h => ?_) (fun cdv A up s H vs Q E qt hr h => ?_)
  · obtain ⟨d, c, b, rfl, _⟩ := h
    rfl
  · obtain ⟨d, c, b, rfl, D, hb, k⟩ := h
    refine ⟨_, (pss_cons (ps_set (i := 1) nd rfl (Or.inl rfl) (pe_c C_pick qt (hr.mono (by decide)) (pa_cons (pv 0) (pa_cons (pe_lst (pa_cons pe_str (pa_cons pe_str (pa_cons pe_str (pa_cons pe_str (pa_cons pe_int (pa_cons pe_int (pa_cons pe_int pa_nil)))))))) pa_nil))))
        (pss_one (ps_ret (pe_lst (pa_cons (pe_tup (pa_cons pe_str pa_nil)) (pa_cons (pe_tup (pa_cons pe_str (pa_cons (pv 1) pa_nil))) (pa_cons (pe_tup (pa_cons pe_str (pa_cons (pv 1) pa_nil))) pa_nil))))))), ?_⟩
    walk_at "rd"
    refine ⟨k_sz rfl, fun q hq => ?_⟩
    walk_at "rd"
    refine ⟨d, c, q, _, _, rfl, D.new hq, by omega, D.off hq, upd_same, k_ble (n := 1) rfl, k_ble rfl, fun y H1 _ D1 x1 => ?_⟩
    walk_at "rd"
    refine ⟨k_sz rfl, fun p1 h1 => ?_⟩
    walk_at "rd"
    refine ⟨k_sz rfl, fun p2 h2 => ?_⟩
    walk_at "rd"
    refine ⟨k_sz rfl, fun p3 h3 => ?_⟩
    walk_at "rd"
    refine ⟨k_sz rfl, fun l hl => ?_⟩
    have D4 := ((D1.new h1 (o := .tup [V.str "heap"])).new h2 (o := .tup [V.str "up", y])).new h3 (o := .tup [V.str "down", y])
    refine k l p1 p2 p3 _ upd_same (D4.off hl) ⟨[], by walk_at "lk"⟩ ⟨[y], by walk_at "lk"⟩ ⟨[y], by walk_at "lk"⟩ (D4.new hl) ?_
    exact ((ext_new hq).trans x1).trans ((((ext_new h1).trans (ext_new h2)).trans (ext_new h3)).trans (ext_new hl))
end
end K20

set_option Elab.async false
set_option maxRecDepth 100000
set_option maxHeartbeats 4000000
namespace K20
open PySem PySem.Spec PyProof.Rows L2 Own
-- steps
local macro_rules | `(tactic| walk_at "lk") => `(tactic| first
  | assumption | exact upd_same
  | ((with_reducible refine' lk_new ?e (by assumption)); (case e => walk_at "lk"))
  | ((with_reducible refine' lk_ext (by assumption) ?e); (case e => walk_at "lk"))
  | ((with_reducible refine' lk_same (by assumption) ?e); (case e => walk_at "lk")))
local macro_rules | `(tactic| walk_at "sq") => `(tactic| first | assumption | exact SqL.of (by walk_at "lk") | exact SqT.of (by walk_at "lk"))
local macro_rules | `(tactic| walk_at "r1") => `(tactic| first
  | with_reducible refine k_seq ?_ | with_reducible refine k_asg ?_ | with_reducible refine k_ret ?_ | with_reducible refine k_drop ?_ | with_reducible refine k_next ?_ | with_reducible refine k_ifS ?_
  | ((with_reducible refine' k_var ?e ?_); (case e => exact rfl)) | with_reducible refine k_c ?_ | with_reducible refine k_op ?_ | with_reducible refine k_un ?_ | with_reducible refine k_test ?_ | with_reducible refine k_B ?_
  | with_reducible refine k_and ?_ | with_reducible refine k_or ?_ | with_reducible refine k_not ?_ | with_reducible refine k_andV ?_ | with_reducible refine k_orV ?_ | with_reducible refine k_notV ?_ | with_reducible refine k_if ?_
  | with_reducible refine k_nil ?_ | with_reducible refine k_cons ?_ | with_reducible refine k_tup ?_ | with_reducible refine k_lst ?_ | with_reducible refine k_call ?_ | with_reducible refine k_cb ?_ | with_reducible refine k_ck ?_
  | with_reducible refine k_par ?_ | with_reducible refine k_par1 ?_ | with_reducible refine k_tr ?_ | with_reducible refine k_rI0 ?_ | with_reducible refine k_rU ?_
  | with_reducible refine k_gN ?_ | with_reducible refine k_gS ?_ | with_reducible refine k_gNil ?_ | with_reducible refine k_gCons ?_ | with_reducible refine k_bm0 ?_ | with_reducible refine k_bm ?_
  | with_reducible refine k_for ?_ | with_reducible refine k_iL ?_ | with_reducible refine k_iT ?_ | with_reducible refine k_iR1 ?_ | ((with_reducible refine k_iR1i ?e ?_); (case e => first | decide | exact ⟨by omega, by omega⟩))
  | with_reducible refine k_max ?_ | with_reducible refine k_isB ?_ | with_reducible refine k_sl ?_ | with_reducible refine k_noP ?_ | with_reducible refine k_part ?_ | with_reducible refine k_partI ?_ | with_reducible refine k_revL ?_
  | ((with_reducible refine' k_ixqT ?e ?f ?_); (case e => walk_at "sq"); (case f => first | exact rfl | exact atI_head))
  | ((with_reducible refine' k_ixqL ?e ?f ?_); (case e => walk_at "sq"); (case f => first | exact rfl | exact atI_head))
  | ((with_reducible refine' k_lenL ?e ?_); (case e => walk_at "sq"))
  | ((with_reducible refine' k_lenT ?e ?_); (case e => walk_at "sq"))
  | ((with_reducible refine' k_ixL ?e ?f ?_); (case e => walk_at "sq"); (case f => first | exact rfl | exact atI_head))
  | ((with_reducible refine' k_ixT ?e ?f ?_); (case e => walk_at "sq"); (case f => first | exact rfl | exact atI_head))
  | ((with_reducible refine k_eq ?e ?_); (case e => exact rfl)) | ((with_reducible refine k_ne ?e ?_); (case e => exact rfl))
  | ((with_reducible refine k_rI ?e ?_); (case e => first | assumption | omega | decide | exact ⟨by omega, by omega⟩ | exact .inl ⟨by omega, by omega⟩ | exact .inr ⟨by omega, by omega⟩)))
local macro_rules | `(tactic| walk_at "rd") => `(tactic| repeat walk_at "r1")
-- steps end
section
variable {P : Program} {w : World} {K : PySem.W.Frag} {mg : Str → Option Value} {g0 : Heap}

def spLaw (K : PySem.W.Frag) : Sp := fun vs H Q _ => ∃ (a : Addr) (ns : List Int), vs = [.ref a] ∧ SqL K H a (ns.map V.int) ∧ ns.length ≤ 63 ∧ ∀ H', Q (.bl true) H'
theorem ok_law {f : Addr} {fd : FuncData} (F : Fun K "law" "law" s_law f fd) (z_range : mg "range" = none)
    (C_deck : Cal P w K mg g0 "_law_deck" 1 ["_law_script"] (spDeck K))
    (C_draw : Cal P w K mg g0 "_law_draw" 1 ["_law_deck_here", "_law_many"] spDraw)
    (C_row : Cal P w K mg g0 "_law_row" 3 ["_law_deck_here"] spRow)
    (C_near : Cal P w K mg g0 "_law_near" 2 ["_law_deck_here", "_law_row_here"] spNear)
    (C_paths : Cal P w K mg g0 "_law_paths" 3 ["_law_deck_here"] spPaths)
    (C_pair_right : Cal P w K mg g0 "_law_pair_right" 3 ["_law_road", "_law_near_here", "_law_far"] spPair)
    (C_chain_right : Cal P w K mg g0 "_law_chain_right" 3 ["_law_road", "_law_rows"] spChain) :
    GOk P w K mg g0 CX0 4 f fd ["_law_script"] (spLaw K) := by
  have nd := sc_law.nd
  refine okG F sc_law (fun vs H Q E h => ?_) (fun cdv A up s H vs Q E qt hr h => ?_)
  · obtain ⟨a, ns, rfl, _⟩ := h
    rfl
  · obtain ⟨a, ns, rfl, hS, hl, k⟩ := h
    refine ⟨_, (pss_cons (ps_set (i := 1) nd rfl (Or.inl rfl) (pe_c C_deck qt (hr.mono (by decide)) (pa_cons (pv 0) pa_nil)))
        (pss_cons (ps_for PassesOwn.never rfl (pi_range1 (by rfl) z_range (pa_cons pe_int pa_nil)) (pg_name (i := 2) nd rfl (Or.inl rfl)) (pss_cons (ps_set (i := 3) nd rfl (Or.inl rfl) (pe_c C_row qt (hr.mono (by decide)) (pa_cons (pv 1) pa_nil)))
        (Evl.pss_cut (ps_set (i := 4) nd rfl (Or.inl rfl) (pe_ifExp (pt_cmpR op_eq (pe_c C_draw qt (hr.mono (by decide)) (pa_cons (pv 1) (pa_cons pe_int pa_nil))) pe_int (nomark _)) (pe_c C_near qt (hr.mono (by decide)) (pa_cons (pv 1) (pa_cons (pv 3) pa_nil))) (pe_c C_row qt (hr.mono (by decide)) (pa_cons (pv 1) pa_nil))))
        (pss_cons (ps_set (i := 5) nd rfl (Or.inl rfl) (pe_c C_near qt (hr.mono (by decide)) (pa_cons (pv 1) (pa_cons (pv 4) pa_nil))))
        (pss_one (ps_for PassesOwn.never rfl (pi_list (pe_c C_paths qt (hr.mono (by decide)) (pa_cons (pv 1) pa_nil))) (pg_name (i := 6) nd rfl (Or.inl rfl)) (pss_cons (ps_if (PW.pt (pw_or (pt_not (pt_val (pe_c C_pair_right qt (hr.mono (by decide)) (pa_cons (pv 6) (pa_cons (pv 3) (pa_cons (pv 4) pa_nil)))))) (pw_or1 (pt_not (pt_val (pe_c C_pair_right qt (hr.mono (by decide)) (pa_cons (pv 6) (pa_cons (pv 4) (pa_cons (pv 5) pa_nil))))))))) (pss_one (ps_ret pe_bl)) pss_nil)
        (pss_one (ps_if (PW.pt (pw_or (pt_not (pt_val (pe_c C_chain_right qt (hr.mono (by decide)) (pa_cons (pv 6) (pa_cons (pe_tup (pa_cons (pv 3) (pa_cons (pv 4) (pa_cons (pv 5) pa_nil)))) pa_nil))))) (pw_or1 (pt_not (pt_val (pe_c C_chain_right qt (hr.mono (by decide)) (pa_cons (pv 6) (pa_cons (pe_tup (pa_cons (pv 5) (pa_cons (pv 4) (pa_cons (pv 3) pa_nil)))) pa_nil)))))))) (pss_one (ps_ret pe_bl)) pss_nil)))))))))
        (pss_one (ps_ret pe_bl)))), ?_⟩
    walk_at "rd"
    refine ⟨a, ns, rfl, hS, hl, fun d c H1 _ _ D1 _ => ?_⟩
    walk_at "rd"
    let Pv : Nat → L2.St → Hp → Prop := fun i σ H' => Deck d c (20 * i) H' ∧ ∃ o1 o2 o3 o4 o5 : Option V, σ = [some (.ref a), some (.ref d), o1, o2, o3, o4, o5]
    refine ⟨60, rfl, by decide, by decide, for_range (lo := 0) (n := 60) Pv ⟨D1, _, _, _, _, _, rfl⟩ (fun i σ H2 hi h => ?_) (fun σ H2 h => ?_)⟩
    · obtain ⟨D2, o1, o2, o3, o4, o5, rfl⟩ := h
      walk_at "rd"
      refine ⟨d, c, _, rfl, D2, by omega, fun r1 n1 v1 H3 e1 D3 x3 => ?_⟩
      walk_at "rd"
      -- the second row
      refine ⟨fun σ' H' => ∃ (r2 : Addr) (n2 v2 : Int), σ' = [some (.ref a), some (.ref d), some (.int (0 + i)), some (.ref r1), some (.ref r2), o4, o5] ∧ RowAt H' r1 n1 v1 ∧ RowAt H' r2 n2 v2 ∧ Deck d c (20 * i + 11) H', ?_, ?_⟩
      · walk_at "rd"
        refine ⟨d, c, _, _, rfl, D3, by omega, by decide, by decide, fun z H4 _ _ D4 x4 => ?_⟩
        walk_at "rd"
        refine k_ite (fun _ => ?_) (fun _ => ?_)
        · walk_at "rd"
          refine ⟨d, c, r1, _, n1, v1, rfl, D4, by omega, e1.ext x4, fun r2 n2 v2 H5 e2 D5 x5 => ?_⟩
          walk_at "rd"
          exact ⟨r2, n2, v2, rfl, (e1.ext x4).ext x5, e2, D5.mono (by omega)⟩
        · walk_at "rd"
          refine ⟨d, c, _, rfl, D4, by omega, fun r2 n2 v2 H5 e2 D5 x5 => ?_⟩
          walk_at "rd"
          exact ⟨r2, n2, v2, rfl, (e1.ext x4).ext x5, e2, D5.mono (by omega)⟩
      · rintro σ' H5 ⟨r2, n2, v2, rfl, f1, f2, D5⟩
        walk_at "rd"
        refine ⟨d, c, r2, _, n2, v2, rfl, D5, by omega, f2, fun r3 n3 v3 H6 f3 D6 x6 => ?_⟩
        replace f1 := f1.ext x6
        replace f2 := f2.ext x6
        walk_at "rd"
        refine ⟨d, c, _, rfl, D6, by omega, fun l p1 p2 p3 H7 hl nl g1 g2 g3 D7 x7 => ?_⟩
        replace f1 := f1.ext x7
        replace f2 := f2.ext x7
        replace f3 := f3.ext x7
        walk_at "rd"
        let Pw : Nat → L2.St → Hp → Prop := fun j σ H' => Same H7 H' ∧ ∃ o : Option V, σ = [some (.ref a), some (.ref d), some (.int (0 + i)), some (.ref r1), some (.ref r2), some (.ref r3), o]
        have roads : ∀ x ∈ [V.ref p1, V.ref p2, V.ref p3], ∃ p r, x = V.ref p ∧ Road r ∧ RoadAt H7 p r := by
          intro x hx
          simp only [List.mem_cons, List.not_mem_nil, or_false] at hx
          rcases hx with rfl | rfl | rfl
          · exact ⟨_, _, rfl, .inl rfl, g1⟩
          · exact ⟨_, _, rfl, .inr (.inl rfl), g2⟩
          · exact ⟨_, _, rfl, .inr (.inr rfl), g3⟩
        refine ⟨l, rfl, ⟨_, SqL.of hl⟩, for_list (xs := [V.ref p1, V.ref p2, V.ref p3]) Pw ⟨Same.refl _, _, rfl⟩ (fun j σ H8 _ h => ?_) (fun j x σ H8 hx h => ?_) (fun σ H8 h => ?_)⟩
        · exact SqL.of (h.1 _ _ hl)
        · obtain ⟨s8, o, rfl⟩ := h
          obtain ⟨p, r, rfl, hR, hp⟩ := roads x (List.mem_of_getElem? hx)
          walk_at "rd"
          refine ⟨p, r1, r2, r, n1, v1, n2, v2, rfl, hR, hp.same s8, f1.same s8, f2.same s8, fun H9 s9 => ?_⟩
          replace s9 := s8.trans s9
          walk_at "rd"
          refine k_ite (fun z => by cases z) (fun _ => ?_)
          walk_at "rd"
          refine ⟨p, r2, r3, r, n2, v2, n3, v3, rfl, hR, hp.same s9, f2.same s9, f3.same s9, fun H10 s10 => ?_⟩
          replace s10 := s9.trans s10
          walk_at "rd"
          refine k_ite (fun z => by cases z) (fun _ => ?_)
          walk_at "rd"
          refine ⟨k_sz rfl, fun t ht => ?_⟩
          have s11 := s10.trans (Same.upd (o := .tup [V.ref r1, V.ref r2, V.ref r3]) ht)
          walk_at "rd"
          refine ⟨p, t, r1, r2, r3, r, n1, v1, n2, v2, n3, v3, rfl, hR, hp.same s11, upd_same, f1.same s11, f2.same s11, f3.same s11, fun H12 s12 => ?_⟩
          replace s12 := s11.trans s12
          walk_at "rd"
          refine k_ite (fun z => by cases z) (fun _ => ?_)
          walk_at "rd"
          refine ⟨k_sz rfl, fun t2 ht2 => ?_⟩
          have s13 := s12.trans (Same.upd (o := .tup [V.ref r3, V.ref r2, V.ref r1]) ht2)
          walk_at "rd"
          refine ⟨p, t2, r3, r2, r1, r, n3, v3, n2, v2, n1, v1, rfl, hR, hp.same s13, upd_same, f3.same s13, f2.same s13, f1.same s13, fun H14 s14 => ?_⟩
          walk_at "rd"
          refine k_ite (fun z => by cases z) (fun _ => ?_)
          walk_at "rd"
          exact ⟨s13.trans s14, _, rfl⟩
        · obtain ⟨s8, o, rfl⟩ := h
          exact ⟨(D7.same s8).mono (by omega), _, _, _, _, _, rfl⟩
    · obtain ⟨D2, o1, o2, o3, o4, o5, rfl⟩ := h
      walk_at "rd"
      exact k _
end
end K20

set_option Elab.async false
set_option maxRecDepth 100000
set_option maxHeartbeats 4000000
namespace K20
open PySem PySem.Spec PyProof.Rows L2 Own
theorem kb_of {K : PySem.W.Frag} {x qual : Str} {st : Stmt} {f : Addr} {fd : FuncData} {ps ks : List Str} {n : Nat} {g : List Value → List Value → List Value} {gV : List V → List V → List V} (F : Fun K x qual st f fd)
    (rel : ∀ {vs : List V} {us : List Value} {zs : List V} {ws : List Value}, Vals vs us → Vals zs ws → Vals (gV vs zs) (g us ws))
    (h : ∀ (kV doc pm : Value) (an : Option Addr) (cdv ct : Value) (us ws : List Value), us.length = n → ws.length = ks.length →
      bindArgs (PySem.W.fnOf x qual (defArgs st) (defBody st) (defScope st) .none kV doc pm an cdv ct) ⟨us, ks.zip ws⟩ = pure (ps.zip (g us ws))) : KBn K fd ps n ks g gV := by
  obtain ⟨oc, od, kV, doc, pm, an, cdv, ct, osl, rfl, _, _⟩ := F.ex
  exact ⟨fun s us ws _ l1 l2 => BindsTo.of_eq (h kV doc pm an cdv ct us ws l1 l2), rel⟩

theorem all_mk {l : PySem.W.OpenLaw} {w : World} {K : PySem.W.Frag} {h : Heap} {mg : Str → Option Value} {fa : Addr} (X : K.In h) (G : h.Ns mainGlobals mg) (hfa : mg "law" = some (.ref fa))
    {f1 : Addr} {od1 an1 : Option Addr} {sl1 : Array (Option Value)} {oc1 kV1 dc1 pm1 cd1 ct1 : Value}
    (a1 : PySem.W.nsIn K mainGlobals "is_ahead" = some (some (.ref f1))) (l1 : K.lookup f1 = some ⟨oc1, od1, .func (PySem.W.fnOf "is_ahead" "is_ahead" (defArgs s_is_ahead) (defBody s_is_ahead) (defScope s_is_ahead) .none kV1 dc1 pm1 an1 cd1 ct1), sl1⟩)
    (c1 : PySem.W.codeIn K cd1 "is_ahead" = true) (k1 : PySem.W.keepIn K (.ref f1) = true)
    {f2 : Addr} {od2 an2 : Option Addr} {sl2 : Array (Option Value)} {oc2 kV2 dc2 pm2 cd2 ct2 : Value}
    (a2 : PySem.W.nsIn K mainGlobals "comes_first" = some (some (.ref f2))) (l2 : K.lookup f2 = some ⟨oc2, od2, .func (PySem.W.fnOf "comes_first" "comes_first" (defArgs s_comes_first) (defBody s_comes_first) (defScope s_comes_first) .none kV2 dc2 pm2 an2 cd2 ct2), sl2⟩)
    (c2 : PySem.W.codeIn K cd2 "comes_first" = true) (k2 : PySem.W.keepIn K (.ref f2) = true)
    {f3 : Addr} {od3 an3 : Option Addr} {sl3 : Array (Option Value)} {oc3 kV3 dc3 pm3 cd3 ct3 : Value}
    (a3 : PySem.W.nsIn K mainGlobals "_law_deck" = some (some (.ref f3))) (l3 : K.lookup f3 = some ⟨oc3, od3, .func (PySem.W.fnOf "_law_deck" "_law_deck" (defArgs s_deck) (defBody s_deck) (defScope s_deck) .none kV3 dc3 pm3 an3 cd3 ct3), sl3⟩)
    (c3 : PySem.W.codeIn K cd3 "_law_deck" = true) (k3 : PySem.W.keepIn K (.ref f3) = true)
    {f4 : Addr} {od4 an4 : Option Addr} {sl4 : Array (Option Value)} {oc4 kV4 dc4 pm4 cd4 ct4 : Value}
    (a4 : PySem.W.nsIn K mainGlobals "_law_draw" = some (some (.ref f4))) (l4 : K.lookup f4 = some ⟨oc4, od4, .func (PySem.W.fnOf "_law_draw" "_law_draw" (defArgs s_draw) (defBody s_draw) (defScope s_draw) .none kV4 dc4 pm4 an4 cd4 ct4), sl4⟩)
    (c4 : PySem.W.codeIn K cd4 "_law_draw" = true) (k4 : PySem.W.keepIn K (.ref f4) = true)
    {f5 : Addr} {od5 an5 : Option Addr} {sl5 : Array (Option Value)} {oc5 kV5 dc5 pm5 cd5 ct5 : Value}
    (a5 : PySem.W.nsIn K mainGlobals "_law_pick" = some (some (.ref f5))) (l5 : K.lookup f5 = some ⟨oc5, od5, .func (PySem.W.fnOf "_law_pick" "_law_pick" (defArgs s_pick) (defBody s_pick) (defScope s_pick) .none kV5 dc5 pm5 an5 cd5 ct5), sl5⟩)
    (c5 : PySem.W.codeIn K cd5 "_law_pick" = true) (k5 : PySem.W.keepIn K (.ref f5) = true)
    {f6 : Addr} {od6 an6 : Option Addr} {sl6 : Array (Option Value)} {oc6 kV6 dc6 pm6 cd6 ct6 : Value}
    (a6 : PySem.W.nsIn K mainGlobals "_law_row" = some (some (.ref f6))) (l6 : K.lookup f6 = some ⟨oc6, od6, .func (PySem.W.fnOf "_law_row" "_law_row" (defArgs s_row) (defBody s_row) (defScope s_row) .none kV6 dc6 pm6 an6 cd6 ct6), sl6⟩)
    (c6 : PySem.W.codeIn K cd6 "_law_row" = true) (k6 : PySem.W.keepIn K (.ref f6) = true)
    {f7 : Addr} {od7 an7 : Option Addr} {sl7 : Array (Option Value)} {oc7 kV7 dc7 pm7 cd7 ct7 : Value}
    (a7 : PySem.W.nsIn K mainGlobals "_law_near" = some (some (.ref f7))) (l7 : K.lookup f7 = some ⟨oc7, od7, .func (PySem.W.fnOf "_law_near" "_law_near" (defArgs s_near) (defBody s_near) (defScope s_near) .none kV7 dc7 pm7 an7 cd7 ct7), sl7⟩)
    (c7 : PySem.W.codeIn K cd7 "_law_near" = true) (k7 : PySem.W.keepIn K (.ref f7) = true)
    {f8 : Addr} {od8 an8 : Option Addr} {sl8 : Array (Option Value)} {oc8 kV8 dc8 pm8 cd8 ct8 : Value}
    (a8 : PySem.W.nsIn K mainGlobals "_law_paths" = some (some (.ref f8))) (l8 : K.lookup f8 = some ⟨oc8, od8, .func (PySem.W.fnOf "_law_paths" "_law_paths" (defArgs s_paths) (defBody s_paths) (defScope s_paths) .none kV8 dc8 pm8 an8 cd8 ct8), sl8⟩)
    (c8 : PySem.W.codeIn K cd8 "_law_paths" = true) (k8 : PySem.W.keepIn K (.ref f8) = true)
    {f9 : Addr} {od9 an9 : Option Addr} {sl9 : Array (Option Value)} {oc9 kV9 dc9 pm9 cd9 ct9 : Value}
    (a9 : PySem.W.nsIn K mainGlobals "_law_due" = some (some (.ref f9))) (l9 : K.lookup f9 = some ⟨oc9, od9, .func (PySem.W.fnOf "_law_due" "_law_due" (defArgs s_due) (defBody s_due) (defScope s_due) .none kV9 dc9 pm9 an9 cd9 ct9), sl9⟩)
    (c9 : PySem.W.codeIn K cd9 "_law_due" = true) (k9 : PySem.W.keepIn K (.ref f9) = true)
    {f10 : Addr} {od10 an10 : Option Addr} {sl10 : Array (Option Value)} {oc10 kV10 dc10 pm10 cd10 ct10 : Value}
    (a10 : PySem.W.nsIn K mainGlobals "_law_pair_right" = some (some (.ref f10))) (l10 : K.lookup f10 = some ⟨oc10, od10, .func (PySem.W.fnOf "_law_pair_right" "_law_pair_right" (defArgs s_pair_right) (defBody s_pair_right) (defScope s_pair_right) .none kV10 dc10 pm10 an10 cd10 ct10), sl10⟩)
    (c10 : PySem.W.codeIn K cd10 "_law_pair_right" = true) (k10 : PySem.W.keepIn K (.ref f10) = true)
    {f11 : Addr} {od11 an11 : Option Addr} {sl11 : Array (Option Value)} {oc11 kV11 dc11 pm11 cd11 ct11 : Value}
    (a11 : PySem.W.nsIn K mainGlobals "_law_chain_right" = some (some (.ref f11))) (l11 : K.lookup f11 = some ⟨oc11, od11, .func (PySem.W.fnOf "_law_chain_right" "_law_chain_right" (defArgs s_chain_right) (defBody s_chain_right) (defScope s_chain_right) .none kV11 dc11 pm11 an11 cd11 ct11), sl11⟩)
    (c11 : PySem.W.codeIn K cd11 "_law_chain_right" = true) (k11 : PySem.W.keepIn K (.ref f11) = true)
    {f12 : Addr} {od12 an12 : Option Addr} {sl12 : Array (Option Value)} {oc12 kV12 dc12 pm12 cd12 ct12 : Value}
    (a12 : PySem.W.nsIn K mainGlobals "law" = some (some (.ref f12))) (l12 : K.lookup f12 = some ⟨oc12, od12, .func (PySem.W.fnOf "law" "law" (defArgs s_law) (defBody s_law) (defScope s_law) .none kV12 dc12 pm12 an12 cd12 ct12), sl12⟩)
    (c12 : PySem.W.codeIn K cd12 "law" = true) (k12 : PySem.W.keepIn K (.ref f12) = true)
    (z_list : PySem.W.nsIn K mainGlobals "list" = some none)
    (z_len : PySem.W.nsIn K mainGlobals "len" = some none)
    (z_max : PySem.W.nsIn K mainGlobals "max" = some none)
    (z_repr : PySem.W.nsIn K mainGlobals "repr" = some none)
    (z_range : PySem.W.nsIn K mainGlobals "range" = some none) :
    ∃ fd : FuncData, (∀ (s : Shared) (v : Value), BindsTo s fd ⟨[v], []⟩ [("_law_script", v)]) ∧
      ∀ g0 : Heap, K.In g0 → g0.Ns mainGlobals mg → GOk l.prog w K mg g0 CX0 4 fa fd ["_law_script"] (spLaw K) := by
  have e := hfa.symm.trans (PySem.W.mg_of X G a12)
  cases e
  have F1 := fun_mk (st := s_is_ahead) l1 c1 k1
  have F2 := fun_mk (st := s_comes_first) l2 c2 k2
  have F3 := fun_mk (st := s_deck) l3 c3 k3
  have F4 := fun_mk (st := s_draw) l4 c4 k4
  have F5 := fun_mk (st := s_pick) l5 c5 k5
  have F6 := fun_mk (st := s_row) l6 c6 k6
  have F7 := fun_mk (st := s_near) l7 c7 k7
  have F8 := fun_mk (st := s_paths) l8 c8 k8
  have F9 := fun_mk (st := s_due) l9 c9 k9
  have F10 := fun_mk (st := s_pair_right) l10 c10 k10
  have F11 := fun_mk (st := s_chain_right) l11 c11 k11
  have b1 := F1.binds (ps := ["path", "one", "other"]) fun _ _ _ _ _ _ us hl => match us, hl with | [_, _, _], _ => rfl
  have b2 := F2.binds (ps := ["path", "place", "other"]) fun _ _ _ _ _ _ us hl => match us, hl with | [_, _, _], _ => rfl
  have b3 := F3.binds (ps := ["_law_script"]) fun _ _ _ _ _ _ us hl => match us, hl with | [_], _ => rfl
  have b4 := F4.binds (ps := ["_law_deck_here", "_law_many"]) fun _ _ _ _ _ _ us hl => match us, hl with | [_, _], _ => rfl
  have b5 := F5.binds (ps := ["_law_deck_here", "_law_some"]) fun _ _ _ _ _ _ us hl => match us, hl with | [_, _], _ => rfl
  have b6 := F6.binds (ps := ["_law_deck_here"]) fun _ _ _ _ _ _ us hl => match us, hl with | [_], _ => rfl
  have b7 := F7.binds (ps := ["_law_deck_here", "_law_row_here"]) fun _ _ _ _ _ _ us hl => match us, hl with | [_, _], _ => rfl
  have b8 := F8.binds (ps := ["_law_deck_here"]) fun _ _ _ _ _ _ us hl => match us, hl with | [_], _ => rfl
  have b9 := F9.binds (ps := ["_law_road", "_law_near_here", "_law_far"]) fun _ _ _ _ _ _ us hl => match us, hl with | [_, _, _], _ => rfl
  have b10 := F10.binds (ps := ["_law_road", "_law_near_here", "_law_far"]) fun _ _ _ _ _ _ us hl => match us, hl with | [_, _, _], _ => rfl
  have b11 := F11.binds (ps := ["_law_road", "_law_rows"]) fun _ _ _ _ _ _ us hl => match us, hl with | [_, _], _ => rfl
  have kb : KBn K _ ["path", "one", "other"] 0 ["other", "one", "path"] (fun _ ws => match ws with | [o, n, p] => [p, n, o] | _ => []) (fun _ zs => match zs with | [o, n, p] => [p, n, o] | _ => []) :=
    kb_of (K := K) F1 (fun _ r => match r with
      | .nil => .nil
      | .cons _ .nil => .nil
      | .cons _ (.cons _ .nil) => .nil
      | .cons a (.cons b (.cons c .nil)) => .cons c (.cons b (.cons a .nil))
      | .cons _ (.cons _ (.cons _ (.cons _ _))) => .nil) fun _ _ _ _ _ _ us ws h1 h2 => match us, h1, ws, h2 with | [], _, [_, _, _], _ => rfl
  have zl := PySem.W.mg_none_of X G z_list
  have zn := PySem.W.mg_none_of X G z_len
  have zm := PySem.W.mg_none_of X G z_max
  have zr := PySem.W.mg_none_of X G z_repr
  have zg := PySem.W.mg_none_of X G z_range
  refine ⟨PySem.W.fnOf "law" "law" (defArgs s_law) (defBody s_law) (defScope s_law) .none kV12 dc12 pm12 an12 cd12 ct12, fun s v => .of_eq rfl, fun g0 _ _ => ?_⟩
  have C2 : Cal l.prog w K mg g0 "comes_first" 1 ["path", "place", "other"] spFirst := ⟨_, _, ok_first F2, b2, PySem.W.mg_of X G a2, k2⟩
  have C1 : Cal l.prog w K mg g0 "is_ahead" 2 ["path", "one", "other"] spAhead := ⟨_, _, ok_ahead F1 C2, b1, PySem.W.mg_of X G a1, k1⟩
  have CK1 : CallAhead l.prog w K mg g0 := ⟨_, _, _, ok_ahead F1 C2, kb, PySem.W.mg_of X G a1, k1⟩
  have C3 : Cal l.prog w K mg g0 "_law_deck" 1 ["_law_script"] (spDeck K) := ⟨_, _, ok_deck F3 zl, b3, PySem.W.mg_of X G a3, k3⟩
  have C4 : Cal l.prog w K mg g0 "_law_draw" 1 ["_law_deck_here", "_law_many"] spDraw := ⟨_, _, ok_draw F4, b4, PySem.W.mg_of X G a4, k4⟩
  have C5 : Cal l.prog w K mg g0 "_law_pick" 2 ["_law_deck_here", "_law_some"] spPick := ⟨_, _, ok_pick F5 zn C4, b5, PySem.W.mg_of X G a5, k5⟩
  have C6 : Cal l.prog w K mg g0 "_law_row" 3 ["_law_deck_here"] spRow := ⟨_, _, ok_row F6 C4 C5, b6, PySem.W.mg_of X G a6, k6⟩
  have C7 : Cal l.prog w K mg g0 "_law_near" 2 ["_law_deck_here", "_law_row_here"] spNear := ⟨_, _, ok_near F7 zm C4, b7, PySem.W.mg_of X G a7, k7⟩
  have C8 : Cal l.prog w K mg g0 "_law_paths" 3 ["_law_deck_here"] spPaths := ⟨_, _, ok_paths F8 C5, b8, PySem.W.mg_of X G a8, k8⟩
  have C9 : Cal l.prog w K mg g0 "_law_due" 1 ["_law_road", "_law_near_here", "_law_far"] spDue := ⟨_, _, ok_due F9, b9, PySem.W.mg_of X G a9, k9⟩
  have C10 : Cal l.prog w K mg g0 "_law_pair_right" 3 ["_law_road", "_law_near_here", "_law_far"] spPair := ⟨_, _, ok_pair F10 zr C1 CK1 C9, b10, PySem.W.mg_of X G a10, k10⟩
  have C11 : Cal l.prog w K mg g0 "_law_chain_right" 3 ["_law_road", "_law_rows"] spChain := ⟨_, _, ok_chain F11 C1, b11, PySem.W.mg_of X G a11, k11⟩
  exact ok_law (fun_mk (st := s_law) l12 c12 k12) zg C3 C4 C6 C7 C8 C10 C11
end K20

open PySem PySem.W PyProof.Rows in
set_option maxRecDepth 100000 in
set_option maxHeartbeats 0 in
theorem PySem.Challenge.cw_ownwake_k20_places_ahead_holds : PySem.Challenge.rw_ownwake_k20_places_ahead.Holds := by
  w_on; o_law; k_head; (case hw => w_witness2)
  k_fill
  refine Own.walkG (l := PySem.Challenge.rw_ownwake_k20_places_ahead) (n := 63) (k := 4) (x := "_law_script") (sp := fun w => K20.spLaw _) rfl (by decide) rfl ⟨rfl, by decide, by decide⟩ (fun w h Y => PySem.W.kIn_of Y) ?F
    (fun _ _ a ns hl _ hS => ⟨a, ns, rfl, hS, hl, fun _ => rfl⟩)
  case F =>
    intro w mg fa h KX G hmg
    refine' K20.all_mk KX G hmg ?a1 ?l1 ?c1 ?k1 ?a2 ?l2 ?c2 ?k2 ?a3 ?l3 ?c3 ?k3 ?a4 ?l4 ?c4 ?k4 ?a5 ?l5 ?c5 ?k5 ?a6 ?l6 ?c6 ?k6 ?a7 ?l7 ?c7 ?k7 ?a8 ?l8 ?c8 ?k8 ?a9 ?l9 ?c9 ?k9 ?a10 ?l10 ?c10 ?k10 ?a11 ?l11 ?c11 ?k11 ?a12 ?l12 ?c12 ?k12 ?z_list ?z_len ?z_max ?z_repr ?z_range
    (case a1 => k_is)
    (case l1 => k_is)
    (case c1 => k_is)
    (case k1 => k_is)
    (case a2 => k_is)
    (case l2 => k_is)
    (case c2 => k_is)
    (case k2 => k_is)
    (case a3 => k_is)
    (case l3 => k_is)
    (case c3 => k_is)
    (case k3 => k_is)
    (case a4 => k_is)
    (case l4 => k_is)
    (case c4 => k_is)
    (case k4 => k_is)
    (case a5 => k_is)
    (case l5 => k_is)
    (case c5 => k_is)
    (case k5 => k_is)
    (case a6 => k_is)
    (case l6 => k_is)
    (case c6 => k_is)
    (case k6 => k_is)
    (case a7 => k_is)
    (case l7 => k_is)
    (case c7 => k_is)
    (case k7 => k_is)
    (case a8 => k_is)
    (case l8 => k_is)
    (case c8 => k_is)
    (case k8 => k_is)
    (case a9 => k_is)
    (case l9 => k_is)
    (case c9 => k_is)
    (case k9 => k_is)
    (case a10 => k_is)
    (case l10 => k_is)
    (case c10 => k_is)
    (case k10 => k_is)
    (case a11 => k_is)
    (case l11 => k_is)
    (case c11 => k_is)
    (case k11 => k_is)
    (case a12 => k_is)
    (case l12 => k_is)
    (case c12 => k_is)
    (case k12 => k_is)
    (case z_list => k_is)
    (case z_len => k_is)
    (case z_max => k_is)
    (case z_repr => k_is)
    (case z_range => k_is)
#print axioms PySem.Challenge.cw_ownwake_k20_places_ahead_holds
