import PyProof.Rows.All
import Wide.All
import OpenK.AllK
import Wide.FinOn
import HandS.ForMost
import HandS.Exc
import HandS.ExcOwn
import HandS.TryOnly
import HandS.WordsExc
import HandS.IsInst
import HandS.TupAny
import HandS.Wide
import PySem.Challenge.RW_looksfar_k06_is_view
set_option Elab.async false
set_option linter.all false
set_option maxRecDepth 100000
set_option maxHeartbeats 400000
/-! ### defs that are called where no repr runs around (guards known to be none) -/
namespace LG
open PySem PySem.Spec PyProof.Rows L2
/-- a def's promise, kept wherever no repr is under way -/
structure FnG (P : Program) (w : World) (K : PySem.W.Frag) (mg : Str → Option Value) (base : Heap) (k : Nat) (f : Addr) (fd : FuncData) (ps : List Str) (sp : Sp) : Prop where
  many : ∀ vs H Q E, sp vs H Q E → vs.length = ps.length
  goes : ∀ (A : Around) (outer : List Env) (s : Shared) (H : Hp) (us : List Value) (vs : List V) (Q : VK) (E : XK), A.guards = some [] → Room k A → Env0 P w K mg base A outer s H →
    BindsTo s fd ⟨us, []⟩ (ps.zip us) → Vals vs us → sp vs H Q E → codeAny (model P w) A (.call (.ref f) ⟨us, []⟩) (CR CX0 outer P w H s Q E) s
section
variable {P : Program} {w : World} {K : PySem.W.Frag} {mg : Str → Option Value} {base : Heap}
theorem FnG.of {k : Nat} {f : Addr} {fd : FuncData} {ps : List Str} {sp : Sp} (F : FnOk P w K mg base CX0 k f fd ps sp) : FnG P w K mg base k f fd ps sp :=
  ⟨F.len, fun A outer s H us vs Q E _ hr e0 hb r h => F.run A outer s H ⟨us, []⟩ us vs Q E hr e0 hb r h⟩
theorem FnG.more {j k : Nat} {f : Addr} {fd : FuncData} {ps : List Str} {sp : Sp} (F : FnG P w K mg base j f fd ps sp) (h : j ≤ k) : FnG P w K mg base k f fd ps sp :=
  ⟨F.many, fun A outer s H us vs Q E hg hr => F.goes A outer s H us vs Q E hg (hr.mono h)⟩
theorem FnG.by {x qual : Str} {st : Stmt} {f : Addr} {fd : FuncData} {N ps : List Str} {k : Nat} {sp : Sp} (F : Fun K x qual st f fd) (S : FnScope N ps (defScope st)) (many : ∀ vs H Q E, sp vs H Q E → vs.length = ps.length)
    (body : ∀ (cdv : Value) (A : Around) (outer : List Env) (s : Shared) (H : Hp) (vs : List V) (Q : VK) (E : XK), (A.deeper (envOfC qual (defScope st) s.heap.objs.size f cdv)).guards = some [] →
      Room k (A.deeper (envOfC qual (defScope st) s.heap.objs.size f cdv)) → sp vs H Q E →
      ∃ t, PSs (cxOf CX0 P w K mg base N qual (defScope st) f cdv A outer s H E).nox (defBody st) t ∧ t { nx := fun _ H' => Q .non H', rt := Q } (start N vs) H) : FnG P w K mg base (k + 1) f fd ps sp := by
  obtain ⟨_, _, _, _, _, _, cdv, _, _, rfl, lk, code⟩ := F.ex
  refine ⟨many, fun A outer s H us vs Q E guard room e0 bind rel hsp => ?_⟩
  have inK : K.In s.heap := e0.mod.kin.keeps fun b o e => (e0.bs b o e).1
  have noLim : s.heap.NoLimit := e0.mod.nolimit.keeps fun b o e => (e0.bs b o e).1
  obtain ⟨t, run, start⟩ := body cdv A outer s H vs Q E guard (room.deeper _) hsp
  refine codeAny_call_function room.depth (inK _ _ lk) rfl S.co S.gen rfl (PySem.W.codeRec_of inK code) (bind _ _ _ _ ?_)
  refine wpAny_newFunctionEnv_cells S.kind (fun y hy => ?_) fun env he s1 made => ?_
  · rcases S.par y.1 (List.of_mem_zip (show (y.1, y.2) ∈ ps.zip us from hy)).1 with q | q
    · exact Or.inl q
    · exact Or.inr ⟨q, PySem.W.cellsFrom_some _ _ _ (Or.inl q)⟩
  subst he
  refine ⟨noLim.keeps made.toInCall.keep, codeAny_func ?_⟩
  have inv := inv_start (CX := CX0) (E := E) S room.hd e0 (many _ _ _ _ hsp) rel made
  refine wpAny_mono (run.nox.run [] s1 (L2.start N vs) H _ inv start) (fun flow s' got => ?_) fun _ _ bad => bad
  cases flow with
  | ret u =>
    obtain ⟨v, _, H', J, rv, q⟩ := got
    exact ⟨v, H', J.os, J.bare, J.base, J.hok, rv, q⟩
  | next =>
    obtain ⟨_, H', J, q⟩ := got
    exact ⟨V.non, H', J.os, J.bare, J.base, J.hok, rfl, q⟩
  | brk =>
    obtain ⟨_, _, _, no⟩ := got
    exact no.elim
  | cont =>
    obtain ⟨_, _, _, no⟩ := got
    exact no.elim
end
section
variable {X : Cx} {k : Nat} {f : Addr} {fd : FuncData} {ps : List Str} {sp : Sp} {x : Str} {p pos : Pos} {e : Expr} {es : List Expr} {t : TA}
/-- f(e, ..) of such a def -/
theorem pe_callG (F : FnG X.prog X.w X.K X.mg X.base k f fd ps sp) (guard : X.A.guards = some []) (room : Room k X.A) (hg : Gl X x) (hm : X.mg x = some (.ref f)) (hk : PySem.W.keepIn X.K (.ref f) = true) (hb : Binds X.K fd ps [])
    (ha : PA X (e :: es) t) (hdb : (x == ("__debug__" : Str)) = false := by decide) (he : starEach (e :: es) X.env = (false, eval e X.env) :: starEach es X.env := by rfl) (hpl : (backTo pos (starEach es X.env)).any (·.1) = false := by rfl) :
    PE X (.Call (.Name x p) (e :: es) [] pos) (tCall sp [] E0 t) := by
  constructor
  intro pins s σ H Q inv want
  refine wpAny_Call_Name_kw (ld_glob inv hg hm ?_ hdb)
  refine PySem.W.callWith_K (h₀ := X.base) inv.ok.mod.kin hk (thn (ha.run pos pins s σ H _ inv want) fun us s1 got => ?_) he hpl
  obtain ⟨vs, H1, inv1, rel, q⟩ := got
  rw [List.append_nil] at q
  have many : us.length = ps.length := by rw [← rel.length]; exact F.many _ _ _ _ q
  have bind := hb s1 us inv1.kIn (by rw [List.append_nil]; exact many)
  rw [List.append_nil] at bind
  refine ⟨inv1.kIn, wpAny_call (codeAny_mono (F.goes X.A X.stack s1 H1 us vs Q E0 guard room inv1.env0 bind rel q) fun r s' end_ => ?_)⟩
  cases r with
  | error _ => exact False.elim end_
  | ok flow =>
    cases flow with
    | ret _ => exact inv1.after end_
    | next => exact False.elim end_
    | brk => exact False.elim end_
    | cont => exact False.elim end_
end
/-! ### repr of data -/
section
variable {X : Cx}
/-- repr(v), v data of any depth: its text -/
def rRep (K : PySem.W.Frag) : List V → Hp → VK → Prop := fun xs H Q => ∃ (v : V) (d : PyData), xs = [v] ∧ Dp K H v d ∧ d.showable = true ∧ d.depth ≤ 60 ∧ d.shown.length ≤ sizeLine ∧ Q (.str d.shown) H
theorem Dp.noDict {K : PySem.W.Frag} {H : Hp} : ∀ (d : PyData) (v : V), Dp K H v d → d.hasDict = false
  | .none, _, _ => by simp only [PyData.hasDict]
  | .bool _, _, _ => by simp only [PyData.hasDict]
  | .int _, _, _ => by simp only [PyData.hasDict]
  | .str _, _, _ => by simp only [PyData.hasDict]
  | .dict _, _, h => by cases h
  | .list ds, _, h => by
    cases h with
    | lst _ ha =>
      simp only [PyData.hasDict]
      exact go ds _ ha
  | .tuple ds, _, h => by
    cases h with
    | tup _ ha =>
      simp only [PyData.hasDict]
      exact go ds _ ha
where go {K : PySem.W.Frag} {H : Hp} : ∀ (ds : List PyData) (vs : List V), DpAll K H vs ds → PyData.hasDictAll ds = false
  | [], _, _ => by simp only [PyData.hasDictAll]
  | d :: ds, _, h => by
    cases h with
    | cons h1 h2 => simp only [PyData.hasDictAll, Dp.noDict d _ h1, go ds _ h2, Bool.or_self]
theorem call_rep (guard : X.A.guards = some []) (room : X.A.units + 64 < cLine) : CallR X (.builtin "repr") (rRep X.K) := by
  intro pins s σ H xs us Q inv rel want
  obtain ⟨v, d, rfl, hd, hs, hn, hz, q⟩ := want
  cases rel with
  | cons r0 rr =>
  rename_i u us'
  cases rr
  obtain ⟨as, reads⟩ := Dp.reads inv d v u hd r0
  have dict := PyData.noDict_hsm (as := as) (Dp.noDict d v hd)
  cases hd with
  | non =>
    cases r0
    exact PySem.P.repr_of_none ⟨.str _, H, inv.tok _, ⟨_, rfl⟩, by simpa only [PyData.shown] using q⟩
  | bl b =>
    cases r0
    refine PySem.P.repr_of_bool ⟨.str _, H, inv.tok _, ⟨_, rfl⟩, by simpa only [PyData.shown] using q⟩
  | int i =>
    obtain ⟨t, rfl⟩ := r0
    exact PySem.P.repr_of_int (by simpa [PyData.showable] using hs) ⟨.str _, H, inv.tok _, ⟨_, rfl⟩, by simpa only [PyData.shown] using q⟩
  | str x =>
    obtain ⟨t, rfl⟩ := r0
    exact PySem.P.repr_of_str ⟨.str _, H, inv.tok _, ⟨_, rfl⟩, by simpa only [PyData.shown] using q⟩ (by simpa only [PyData.shown] using hz)
  | lst h1 h2 =>
    cases r0
    exact repr_of_reads' reads hs dict guard (by omega) (fun _ _ z => z) (fun h' u' tk keep => ⟨.str _, H, inv.kept keep, ⟨_, rfl⟩, q⟩) hz
  | tup h1 h2 =>
    cases r0
    exact repr_of_reads' reads hs dict guard (by omega) (fun _ _ z => z) (fun h' u' tk keep => ⟨.str _, H, inv.kept keep, ⟨_, rfl⟩, q⟩) hz
end
end LG
/-! ### the end: the law's promise, at the heap behind the top -/
namespace LG
open PySem PySem.W PySem.Spec PyProof.Rows L2
section
variable {P : Program} {w : World} {K : PySem.W.Frag} {mg mb : Str → Option Value} {k : Nat} {fa a : Addr} {fd : FuncData} {x : Str} {sp : Sp} {s : Shared} {vs : List Value} {ns : List Int}
/-- the call from an abstract heap that tracks at most the script -/
theorem end_from (inK : K.In s.heap) (mains : s.heap.Ns mainGlobals mg) (blts : s.heap.Ns builtinsNs mb) (boot : ∀ y : Str, y ≠ "__name__" → mb y = bootBuiltins y) (noLim : s.heap.NoLimit) (gens : s.gens = #[])
    (obj : s.heap.get? a = some { cls := .type "list", data := .seq vs.toArray }) (room : Room k callerA) (goesF : ∀ base : Heap, K.In base → base.Ns mainGlobals mg → FnG P w K mg base k fa fd [x] sp)
    (bind : ∀ (s : Shared) (u : Value), BindsTo s fd ⟨[u], []⟩ [(x, u)]) (H : Hp) (only : Only H) (held : HOk P w H s.heap) (alone : ∀ b, H b ≠ none → b = a) (away : H a ≠ none → K.lookup a = none)
    (want : sp [.ref a] H (fun v _ => v = .bl true) E0) :
    codeAny (model P w) callerA (.call (.ref fa) ⟨[.ref a], []⟩) (fun r s' => r = .ok (.ret (.bool true)) ∧ OldK s.heap s'.heap ∧ s'.os = s.os ∧ AllBare s'.gens) s := by
  have free : ∀ {b : Addr} {o : Obj}, s.heap.get? b = some o → (b = a → o ≠ { cls := .type "list", data := .seq vs.toArray }) → H b = none := fun {b o} e far => by
    cases q : H b with
    | none => rfl
    | some u =>
      have here : b = a := alone b (by rw [q]; exact nofun)
      refine absurd ?_ (far here)
      rw [here, obj] at e
      exact (Option.some.inj e).symm
  have space : ∀ {b : Addr} {m : Str → Option Value}, s.heap.Ns b m → (hidT s.heap H).Ns b m := fun {b m} ⟨o, es, ep, e, d, more⟩ =>
    ⟨o, es, ep, hidT_get e (free e fun _ same => by rw [same] at d; exact nomatch d), d, more⟩
  have baseK : K.In (hidT s.heap H) := fun b o e => hidT_get (inK b o e) (by
    cases q : H b with
    | none => rfl
    | some u =>
      have here : b = a := alone b (by rw [q]; exact nofun)
      have no := away (by rw [← here, q]; exact nofun)
      rw [here, no] at e
      exact nomatch e)
  have lim : (hidT s.heap H).NoLimit := by
    obtain ⟨mc, h1, h2⟩ := noLim
    exact ⟨mc, space h1, h2⟩
  have modu : Mod K mg (hidT s.heap H) := ⟨baseK, space mains, ⟨mb, space blts, boot⟩, lim⟩
  have e0 : Env0 P w K mg (hidT s.heap H) callerA [] s H := ⟨rfl, modu, fun _ _ e => of_hidT e, Nat.le_of_eq (hidT_size _ _), trivial, (fun _ hb => absurd (show _ ∈ ([] : List Addr) from hb) List.not_mem_nil), held, .of_eq gens⟩
  refine codeAny_mono ((goesF _ baseK (space mains)).goes callerA [] s H [.ref a] [.ref a] _ E0 rfl room e0 (bind s (.ref a)) (.cons rfl .nil) want) fun r s' got => ?_
  cases r with
  | error _ => exact False.elim got
  | ok flow =>
  cases flow with
  | next => exact False.elim got
  | brk => exact False.elim got
  | cont => exact False.elim got
  | ret u =>
    obtain ⟨v, H', sameOs, bare, un, held', rel, yes⟩ := got
    have yes' : v = .bl true := yes
    subst yes'
    obtain rfl : u = Value.bool true := rel
    refine ⟨rfl, OldK.of_keep fun b o e => ?_, sameOs, bare⟩
    rcases only b with free | ⟨ob, xs, fz⟩
    · exact un.keep b o e free (fun z => nomatch z) (fun z => nomatch z)
    · obtain ⟨e1, _⟩ := held b _ fz
      obtain ⟨e2, _⟩ := held' b _ (un.frzs b ob _ fz)
      rw [e2, ← e1, e]
/-- .. from the script as it lies -/
theorem end_call (inK : K.In s.heap) (mains : s.heap.Ns mainGlobals mg) (blts : s.heap.Ns builtinsNs mb) (boot : ∀ y : Str, y ≠ "__name__" → mb y = bootBuiltins y) (noLim : s.heap.NoLimit) (gens : s.gens = #[])
    (obj : s.heap.get? a = some { cls := .type "list", data := .seq vs.toArray }) (numbs : PyProof.Rows.IntsAre vs ns) (small : ns.length ≤ sizeLine) (room : Room k callerA)
    (goesF : ∀ base : Heap, K.In base → base.Ns mainGlobals mg → FnG P w K mg base k fa fd [x] sp) (bind : ∀ (s : Shared) (u : Value), BindsTo s fd ⟨[u], []⟩ [(x, u)])
    (want : ∀ H : Hp, Only H → SqL K H a (ns.map V.int) → sp [.ref a] H (fun v _ => v = .bl true) E0) :
    codeAny (model P w) callerA (.call (.ref fa) ⟨[.ref a], []⟩) (fun r s' => r = .ok (.ret (.bool true)) ∧ OldK s.heap s'.heap ∧ s'.os = s.os ∧ AllBare s'.gens) s := by
  have rel := vals_ints numbs
  cases hk : K.lookup a with
  | some o =>
    have e := inK a o hk
    rw [obj] at e
    obtain rfl := Option.some.inj e
    have only : Only fun _ => none := fun _ => Or.inl rfl
    have held : HOk P w (fun _ => none) s.heap := fun _ _ z => nomatch z
    refine end_from inK mains blts boot noLim gens obj room goesF bind (fun _ => none) only held (fun _ z => absurd rfl z) (fun z => absurd rfl z) (want _ only ?_)
    exact Or.inr ⟨_, vs.toArray, _, hk, rfl, rfl, rfl, by rw [List.size_toArray, numbs.length]; exact small, by simpa using rel⟩
  | none =>
    let one : Hp := upd (fun _ => none) a (.frz { cls := .type "list", data := .seq vs.toArray } (.lst (ns.map V.int)))
    have at_a : one a = some (.frz { cls := .type "list", data := .seq vs.toArray } (.lst (ns.map V.int))) := upd_same
    have off_a : ∀ b, b ≠ a → one b = none := fun b hb => upd_ne hb
    have only : Only one := fun b => by
      by_cases hb : b = a
      · subst hb
        exact Or.inr ⟨_, _, at_a⟩
      · exact Or.inl (off_a b hb)
    have held : HOk P w one s.heap := fun b u z => by
      by_cases hb : b = a
      · subst hb
        rw [at_a] at z
        obtain rfl := Option.some.inj z
        exact ⟨obj, by rw [List.length_map]; exact small, vs, _, rel, obj⟩
      · rw [off_a b hb] at z
        exact nomatch z
    exact end_from inK mains blts boot noLim gens obj room goesF bind one only held (fun b z => Classical.byContradiction fun hb => z (off_a b hb)) (fun _ => hk) (want _ only (.inl (.inr ⟨_, at_a⟩)))
end
/-- what is left of the statement behind the head -/
theorem walk_G {l : PySem.W.OpenLaw} {n k : Nat} {q : Program} {loose : List Str} {XP : (Str → Option Value) → Heap → Prop} {YP : World → Heap → Prop} {d : DefRec} {K : Params → PySem.W.Frag} {sp : PySem.W.Frag → Sp} {x : Str}
    (hn : l.most = some n) (small : n ≤ sizeLine) (plain : d.params.defaults = []) (room : Room k callerA) (hY : ∀ (w : World) (h : Heap), YP w h → (K w.params).In h)
    (F : ∀ (w : World) (mg : Str → Option Value) (fa : Addr) (h : Heap), (K w.params).In h → h.Ns mainGlobals mg → mg d.name = some (.ref fa) →
      ∃ fd : FuncData, (∀ (s : Shared) (u : Value), BindsTo s fd ⟨[u], []⟩ [(x, u)]) ∧ ∀ base : Heap, (K w.params).In base → base.Ns mainGlobals mg → FnG l.prog w (K w.params) mg base k fa fd [x] (sp (K w.params)))
    (want : ∀ (K : PySem.W.Frag) (H : Hp) (a : Addr) (ns : List Int), ns.length ≤ n → Only H → SqL K H a (ns.map V.int) → sp K [.ref a] H (fun v _ => v = .bl true) E0) :
    PySem.W.WalkO q loose XP YP l.row.toRowW d [] (fun f vs => PySem.call f vs) := by
  refine Att.attach_call hn plain fun w s0 s1 mg mb fa o pm cd doc a vs ns ground told ho hd hcd hmg obj numbs many gens => ?_
  have inK := hY w _ told
  obtain ⟨fd, bind, goesF⟩ := F w mg fa _ inK ground.T.g hmg
  exact end_call inK ground.T.g ground.T.b ground.T.builtins ground.T.nolimit gens obj numbs (Nat.le_trans many small) room goesF bind fun H only held => want (K w.params) H a ns many only held
end LG
/-! ### sizes of data, data of tuples, heaps -/
namespace LG
open PySem PySem.Spec PyProof.Rows L2
/-- data whose text is short: at most m parts, h deep -/
def Sized (m h : Nat) (d : PyData) : Prop := d.leavesShort 40 = true ∧ d.showable = true ∧ d.depth ≤ h ∧ d.bulk ≤ m
theorem Sized.more {m m' h h' : Nat} {d : PyData} (s : Sized m h d) (hm : m ≤ m') (hh : h ≤ h') : Sized m' h' d := ⟨s.1, s.2.1, Nat.le_trans s.2.2.1 hh, Nat.le_trans s.2.2.2 hm⟩
theorem sized_all {m h : Nat} : ∀ {ds : List PyData}, (∀ d ∈ ds, Sized m h d) → PyData.leavesShortAll 40 ds = true ∧ PyData.showableAll ds = true ∧ PyData.depthAll ds ≤ h ∧ PyData.bulkAll ds ≤ ds.length * (m + 1)
  | [], _ => ⟨by simp only [PyData.leavesShortAll], by simp only [PyData.showableAll], by simp only [PyData.depthAll]; omega, by simp only [PyData.bulkAll]; omega⟩
  | d :: ds, hd => by
    obtain ⟨a1, a2, a3, a4⟩ := hd d List.mem_cons_self
    obtain ⟨b1, b2, b3, b4⟩ := sized_all fun e he => hd e (List.mem_cons_of_mem _ he)
    refine ⟨by simp only [PyData.leavesShortAll, a1, b1, Bool.and_self], by simp only [PyData.showableAll, a2, b2, Bool.and_self], by simp only [PyData.depthAll]; omega, ?_⟩
    simp only [PyData.bulkAll, List.length_cons, Nat.add_mul, Nat.one_mul] at b4 ⊢
    omega
theorem sized_tup {m h : Nat} {ds : List PyData} (hd : ∀ d ∈ ds, Sized m h d) : Sized (ds.length * (m + 1)) (h + 1) (.tuple ds) := by
  obtain ⟨a1, a2, a3, a4⟩ := sized_all hd
  exact ⟨by simpa only [PyData.leavesShort] using a1, by simpa only [PyData.showable] using a2, by simp only [PyData.depth]; omega, by simpa only [PyData.bulk] using a4⟩
theorem sized_lst {m h : Nat} {ds : List PyData} (hd : ∀ d ∈ ds, Sized m h d) : Sized (ds.length * (m + 1)) (h + 1) (.list ds) := by
  obtain ⟨a1, a2, a3, a4⟩ := sized_all hd
  exact ⟨by simpa only [PyData.leavesShort] using a1, by simpa only [PyData.showable] using a2, by simp only [PyData.depth]; omega, by simpa only [PyData.bulk] using a4⟩
theorem sized_non : Sized 0 0 .none := ⟨by simp only [PyData.leavesShort], by simp only [PyData.showable], by simp only [PyData.depth]; omega, by simp only [PyData.bulk]; omega⟩
theorem sized_bl (b : Bool) : Sized 0 0 (.bool b) := ⟨by simp only [PyData.leavesShort], by simp only [PyData.showable], by simp only [PyData.depth]; omega, by simp only [PyData.bulk]; omega⟩
/-- an int of few digits -/
theorem sized_int {i : Int} (h : i.natAbs < 10 ^ 39) : Sized 0 0 (.int i) := by
  have short : (PyData.shown (.int i)).length ≤ 40 := by
    simp only [PyData.shown]
    show (Str.ofString (toString i)).length ≤ 40
    rw [PySem.ofString_length]
    exact int_text_length_le10 (by decide) h
  refine ⟨by simpa only [PyData.leavesShort, decide_eq_true_eq] using short, ?_, by simp only [PyData.depth]; omega, by simp only [PyData.bulk]; omega⟩
  simp only [PyData.showable, decide_eq_true_eq]
  by_cases z : i.natAbs = 0
  · rw [z]; decide
  · exact Nat.lt_of_lt_of_le ((Nat.log2_lt z).mpr (Nat.lt_of_lt_of_le h (by decide : 10 ^ 39 ≤ 2 ^ 130))) (by decide)
/-- what repr asks -/
theorem Sized.rep {m h : Nat} {d : PyData} (s : Sized m h d) (hm : m ≤ 390000) (hh : h ≤ 60) : d.showable = true ∧ d.depth ≤ 60 ∧ d.shown.length ≤ sizeLine := by
  refine ⟨s.2.1, Nat.le_trans s.2.2.1 hh, ?_⟩
  have z := PyData.shown_le_bulk 40 (by decide) d s.1
  have z2 := s.2.2.2
  rw [sizeLine_eq]
  omega
/-- tuples stay -/
def TupsStay (H H' : Hp) : Prop := ∀ b o, (∃ xs, o = .tup xs) ∨ (∃ ob xs, o = .frz ob (.tup xs)) → H b = some o → H' b = some o
theorem TupsStay.trans {H H1 H2 : Hp} (a : TupsStay H H1) (b : TupsStay H1 H2) : TupsStay H H2 := fun c o h e => b c o h (a c o h e)
theorem TupsStay.refl (H : Hp) : TupsStay H H := fun _ _ _ e => e
theorem _root_.L2.Same.tups {H H' : Hp} (s : Same H H') : TupsStay H H' := fun b o _ e => s b o e
theorem TupsStay.seq {K : PySem.W.Frag} {H H' : Hp} {a : Addr} {xs : List V} (t : TupsStay H H') (h : SqT K H a xs) : SqT K H' a xs := by
  rcases h with (h | ⟨o, h⟩) | h
  · exact .inl (.inl (t _ _ (.inl ⟨_, rfl⟩) h))
  · exact .inl (.inr ⟨o, t _ _ (.inr ⟨_, _, rfl⟩) h⟩)
  · exact .inr h
theorem _root_.L2.Same.seqT {K : PySem.W.Frag} {H H' : Hp} {a : Addr} {xs : List V} (s : Same H H') (h : SqT K H a xs) : SqT K H' a xs := (Same.tups s).seq h
theorem tups_lst {H : Hp} {p : Addr} {xs ys : List V} (h : H p = some (.lst xs)) : TupsStay H (upd H p (.lst ys)) := fun b o hk e => by
  rw [upd_ne (ne_of e h ?_)]
  · exact e
  · rcases hk with ⟨_, rfl⟩ | ⟨_, _, rfl⟩ <;> exact nofun
theorem same_new {H : Hp} {p : Addr} (h : H p = none) (o : HO) : Same H (upd H p o) := fun b u e => by
  rw [upd_ne (ne_of_none e h)]
  exact e
/-- a list that was made since changes -/
theorem same_own {H H' : Hp} {p : Addr} (s : Same H H') (h : H p = none) (o : HO) : Same H (upd H' p o) := fun b u e => by
  rw [upd_ne (ne_of_none e h)]
  exact s b u e
mutual
/-- data without lists -/
inductive Dt (K : PySem.W.Frag) (H : Hp) : V → PyData → Prop
  | non : Dt K H .non .none
  | bl (b : Bool) : Dt K H (.bl b) (.bool b)
  | int (i : Int) : Dt K H (.int i) (.int i)
  | str (x : Str) : Dt K H (.str x) (.str x)
  | tup {a : Addr} {xs : List V} {ds : List PyData} : SqT K H a xs → DtAll K H xs ds → Dt K H (.ref a) (.tuple ds)
inductive DtAll (K : PySem.W.Frag) (H : Hp) : List V → List PyData → Prop
  | nil : DtAll K H [] []
  | cons {v : V} {vs : List V} {d : PyData} {ds : List PyData} : Dt K H v d → DtAll K H vs ds → DtAll K H (v :: vs) (d :: ds)
end
section
variable {K : PySem.W.Frag} {H H' : Hp}
mutual
theorem Dt.dp : ∀ {v : V} {d : PyData}, Dt K H v d → Dp K H v d
  | _, _, .non => .non
  | _, _, .bl b => .bl b
  | _, _, .int i => .int i
  | _, _, .str x => .str x
  | _, _, .tup h a => .tup h a.dp
theorem DtAll.dp : ∀ {vs : List V} {ds : List PyData}, DtAll K H vs ds → DpAll K H vs ds
  | _, _, .nil => .nil
  | _, _, .cons h a => .cons h.dp a.dp
end
mutual
theorem Dt.stay (t : TupsStay H H') : ∀ {v : V} {d : PyData}, Dt K H v d → Dt K H' v d
  | _, _, .non => .non
  | _, _, .bl b => .bl b
  | _, _, .int i => .int i
  | _, _, .str x => .str x
  | _, _, .tup h a => .tup (t.seq h) (a.stay t)
theorem DtAll.stay (t : TupsStay H H') : ∀ {vs : List V} {ds : List PyData}, DtAll K H vs ds → DtAll K H' vs ds
  | _, _, .nil => .nil
  | _, _, .cons h a => .cons (h.stay t) (a.stay t)
end
theorem DtAll.len : ∀ {vs : List V} {ds : List PyData}, DtAll K H vs ds → vs.length = ds.length
  | _, _, .nil => rfl
  | _, _, .cons _ a => by rw [List.length_cons, List.length_cons, a.len]
theorem DtAll.at : ∀ {vs : List V} {ds : List PyData} {i : Nat} {d : PyData}, DtAll K H vs ds → ds[i]? = some d → ∃ v, vs[i]? = some v ∧ Dt K H v d
  | _, _, _, _, .nil, e => by simp at e
  | _, _, 0, _, .cons h _, e => by simp at e; subst e; exact ⟨_, rfl, h⟩
  | _, _, i + 1, d, .cons _ a, e => by simpa using a.at (i := i) (by simpa using e)
theorem DtAll.of : ∀ {vs : List V} {ds : List PyData} {i : Nat} {v : V}, DtAll K H vs ds → vs[i]? = some v → ∃ d, ds[i]? = some d ∧ Dt K H v d
  | _, _, _, _, .nil, e => by simp at e
  | _, _, 0, _, .cons h _, e => by simp at e; subst e; exact ⟨_, rfl, h⟩
  | _, _, i + 1, d, .cons _ a, e => by simpa using a.of (i := i) (by simpa using e)
theorem DtAll.app : ∀ {vs ws : List V} {ds es : List PyData}, DtAll K H vs ds → DtAll K H ws es → DtAll K H (vs ++ ws) (ds ++ es)
  | _, _, _, _, .nil, b => b
  | _, _, _, _, .cons h a, b => .cons h (a.app b)
theorem DtAll.take : ∀ {vs : List V} {ds : List PyData} (n : Nat), DtAll K H vs ds → DtAll K H (vs.take n) (ds.take n)
  | _, _, 0, _ => .nil
  | _, _, _ + 1, .nil => .nil
  | _, _, n + 1, .cons h a => .cons h (a.take n)
theorem DtAll.drop : ∀ {vs : List V} {ds : List PyData} (n : Nat), DtAll K H vs ds → DtAll K H (vs.drop n) (ds.drop n)
  | _, _, 0, a => a
  | _, _, _ + 1, .nil => .nil
  | _, _, n + 1, .cons _ a => a.drop n
theorem DtAll.ints : ∀ (ns : List Int), DtAll K H (ns.map V.int) (ns.map PyData.int)
  | [] => .nil
  | n :: ns => .cons (.int n) (DtAll.ints ns)
theorem item_of {ns : List Int} {i : Nat} {y : V} (hi : (ns.map V.int)[i]? = some y) : ∃ z, ns[i]? = some z ∧ y = V.int z := by
  rw [List.getElem?_map] at hi
  cases e : ns[i]? with
  | none => rw [e] at hi; cases hi
  | some z => rw [e] at hi; exact ⟨z, rfl, (Option.some.inj hi).symm⟩
theorem take_more {α : Type} : ∀ {l : List α} {i : Nat} {x : α}, l[i]? = some x → l.take (i + 1) = l.take i ++ [x]
  | [], i, x, h => by simp at h
  | a :: l, 0, x, h => by simp at h; simp [h]
  | a :: l, i + 1, x, h => by
    have ih := take_more (l := l) (i := i) (x := x) (by simpa using h)
    simp [ih]
end
end LG
/-! ### a def of the text with its promise, by its name -/
namespace LG
open PySem PySem.Spec PyProof.Rows L2
/-- the def of this name, the place hidden -/
structure Has (P : Program) (w : World) (K : PySem.W.Frag) (mg : Str → Option Value) (base : Heap) (CX : CXT) (k : Nat) (x : Str) (ps : List Str) (sp : Sp) : Prop where
  ex : ∃ (f : Addr) (fd : FuncData), FnOk P w K mg base CX k f fd ps sp ∧ mg x = some (.ref f) ∧ PySem.W.keepIn K (.ref f) = true ∧ Binds K fd ps []
structure HasG (P : Program) (w : World) (K : PySem.W.Frag) (mg : Str → Option Value) (base : Heap) (k : Nat) (x : Str) (ps : List Str) (sp : Sp) : Prop where
  ex : ∃ (f : Addr) (fd : FuncData), FnG P w K mg base k f fd ps sp ∧ mg x = some (.ref f) ∧ PySem.W.keepIn K (.ref f) = true ∧ Binds K fd ps []
/-- the def as the top has left it -/
structure Def (K : PySem.W.Frag) (mg : Str → Option Value) (x : Str) (st : Stmt) (ps : List Str) : Prop where
  ex : ∃ (f : Addr) (fd : FuncData), Fun K x x st f fd ∧ mg x = some (.ref f) ∧ Binds K fd ps []
section
variable {P : Program} {w : World} {K : PySem.W.Frag} {mg : Str → Option Value} {base : Heap} {CX : CXT} {k : Nat} {x : Str} {ps : List Str} {sp : Sp} {st : Stmt}
theorem Def.has (d : Def K mg x st ps) (h : ∀ (f : Addr) (fd : FuncData), Fun K x x st f fd → FnOk P w K mg base CX k f fd ps sp) : Has P w K mg base CX k x ps sp := by
  obtain ⟨f, fd, F, m, b⟩ := d.ex
  exact ⟨f, fd, h f fd F, m, F.kp, b⟩
theorem Def.hasG (d : Def K mg x st ps) (h : ∀ (f : Addr) (fd : FuncData), Fun K x x st f fd → FnG P w K mg base k f fd ps sp) : HasG P w K mg base k x ps sp := by
  obtain ⟨f, fd, F, m, b⟩ := d.ex
  exact ⟨f, fd, h f fd F, m, F.kp, b⟩
theorem Has.more {j : Nat} (h : Has P w K mg base CX k x ps sp) (hj : k ≤ j) : Has P w K mg base CX j x ps sp := by
  obtain ⟨f, fd, F, r⟩ := h.ex
  exact ⟨f, fd, F.mono hj, r⟩
theorem Has.imp {sp' : Sp} (h : Has P w K mg base CX k x ps sp) (i : ∀ vs H Q E, sp' vs H Q E → sp vs H Q E) : Has P w K mg base CX k x ps sp' := by
  obtain ⟨f, fd, F, r⟩ := h.ex
  exact ⟨f, fd, F.imp i, r⟩
end
section
variable {X : Cx} {k j : Nat} {ps : List Str} {sp : Sp} {x : Str} {p pos : Pos} {e : Expr} {es : List Expr} {t : TA}
/-- its call: nothing is raised -/
theorem pc (h : Has X.prog X.w X.K X.mg X.base CX0 k x ps sp) (hr : Room j X.A) (ha : PA X (e :: es) t) (hg : Gl X x := by rfl) (hj : k ≤ j := by first | decide | omega) (hdb : (x == ("__debug__" : Str)) = false := by decide)
    (he : starEach (e :: es) X.env = (false, eval e X.env) :: starEach es X.env := by rfl) (hpl : (backTo pos (starEach es X.env)).any (·.1) = false := by rfl) : PE X (.Call (.Name x p) (e :: es) [] pos) (tCall sp [] E0 t) := by
  obtain ⟨f, fd, F, m, kp, b⟩ := h.ex
  exact pe_call F (hr.mono hj) hg m kp b .nil pass0 ha hdb he hpl
theorem pcX (h : Has X.prog X.w X.K X.mg X.base (L2.CX X.prog X.w) k x ps sp) (hr : Room j X.A) (ha : PA X (e :: es) t) (hg : Gl X x := by rfl) (hj : k ≤ j := by first | decide | omega) (hdb : (x == ("__debug__" : Str)) = false := by decide)
    (he : starEach (e :: es) X.env = (false, eval e X.env) :: starEach es X.env := by rfl) (hpl : (backTo pos (starEach es X.env)).any (·.1) = false := by rfl) : PE X (.Call (.Name x p) (e :: es) [] pos) (tCall sp [] E0 t) := by
  obtain ⟨f, fd, F, m, kp, b⟩ := h.ex
  exact pe_call F (hr.mono hj) hg m kp b .nil passL ha hdb he hpl
theorem pcG (h : HasG X.prog X.w X.K X.mg X.base k x ps sp) (guard : X.A.guards = some []) (hr : Room j X.A) (ha : PA X (e :: es) t) (hg : Gl X x := by rfl) (hj : k ≤ j := by first | decide | omega) (hdb : (x == ("__debug__" : Str)) = false := by decide)
    (he : starEach (e :: es) X.env = (false, eval e X.env) :: starEach es X.env := by rfl) (hpl : (backTo pos (starEach es X.env)).any (·.1) = false := by rfl) : PE X (.Call (.Name x p) (e :: es) [] pos) (tCall sp [] E0 t) := by
  obtain ⟨f, fd, F, m, kp, b⟩ := h.ex
  exact pe_callG F guard (hr.mono hj) hg m kp b ha hdb he hpl
/-- its call: what it raises leaves this def too -/
theorem pcE {E : XK} (h : Has X.prog X.w X.K X.mg X.base (L2.CX X.prog X.w) k x ps sp) (hr : Room j X.A) (tk : Takes X (fun cls d _ H => E cls d H)) (ha : PA X (e :: es) t) (hg : Gl X x := by rfl) (hj : k ≤ j := by first | decide | omega) (hdb : (x == ("__debug__" : Str)) = false := by decide)
    (he : starEach (e :: es) X.env = (false, eval e X.env) :: starEach es X.env := by rfl) (hpl : (backTo pos (starEach es X.env)).any (·.1) = false := by rfl) : PE X (.Call (.Name x p) (e :: es) [] pos) (tCall sp [] E t) := by
  obtain ⟨f, fd, F, m, kp, b⟩ := h.ex
  exact pe_call F (hr.mono hj) hg m kp b .nil (passes_call tk fun _ _ _ _ z => z) ha hdb he hpl
/-- its call within a try's body: what it raises is wished for -/
theorem pcS {W : WX} (h : Has X.prog X.w X.K X.mg X.base (L2.CX X.prog X.w) k x ps sp) (hr : Room j X.A) (tk : Takes X W) (ha : PA X (e :: es) t) (hg : Gl X x := by rfl) (hj : k ≤ j := by first | decide | omega) (hdb : (x == ("__debug__" : Str)) = false := by decide)
    (he : starEach (e :: es) X.env = (false, eval e X.env) :: starEach es X.env := by rfl) (hpl : (backTo pos (starEach es X.env)).any (·.1) = false := by rfl) : PE X (.Call (.Name x p) (e :: es) [] pos) (tCallS sp (WE W) t) := by
  obtain ⟨f, fd, F, m, kp, b⟩ := h.ex
  exact pe_callS F (hr.mono hj) hg m kp b (fun σ => passAt tk σ) ha hdb he hpl
end
/-! ### places in lists of ints -/
theorem ix_of {n : Nat} {i : Int} (h0 : 0 ≤ i) (h1 : i < n) : ixN n i = some i.toNat := by
  unfold ixN
  rw [if_pos h0, if_pos h1]
theorem at_int {ns : List Int} {i : Int} (h0 : 0 ≤ i) (h1 : i < ns.length) : ∃ z, ns[i.toNat]? = some z ∧ z ∈ ns ∧ atI (ns.map V.int) i = some (.int z) := by
  have lt : i.toNat < ns.length := by omega
  refine ⟨ns[i.toNat], by simp, List.getElem_mem _, ?_⟩
  refine at_of (j := i.toNat) (by omega) ?_
  rw [List.getElem?_map]
  simp
theorem dec_t {p : Prop} [Decidable p] (h : decide p = true) : p := of_decide_eq_true h
theorem dec_f {p : Prop} [Decidable p] (h : ¬ decide p = true) : ¬ p := fun z => h (decide_eq_true z)
end LG
namespace LG
open PySem PySem.Spec PyProof.Rows L2
section
variable {X : Cx}
/-- == and != of ints -/
theorem op_eqi : OpR X (compareOp .Eq) (rI0 fun i j => .bl (decide (i = j))) := by
  intro pins s σ H x y v u Q inv rx ry want
  obtain ⟨i, j, rfl, rfl, q⟩ := want
  refine op_eq pins s σ H _ _ v u Q inv rx ry ⟨rfl, ?_⟩
  rw [show decide (V.int i = V.int j) = decide (i = j) from decide_eq_decide.mpr ⟨fun z => V.int.inj z, fun z => congrArg V.int z⟩]
  exact q
theorem op_nei : OpR X (compareOp .NotEq) (rI0 fun i j => .bl (!decide (i = j))) := by
  intro pins s σ H x y v u Q inv rx ry want
  obtain ⟨i, j, rfl, rfl, q⟩ := want
  refine op_ne pins s σ H _ _ v u Q inv rx ry ⟨rfl, ?_⟩
  rw [show decide (V.int i = V.int j) = decide (i = j) from decide_eq_decide.mpr ⟨fun z => V.int.inj z, fun z => congrArg V.int z⟩]
  exact q
/-- == and != of texts -/
theorem op_eqs : OpR X (compareOp .Eq) (fun x y H Q => ∃ a b, x = .str a ∧ y = .str b ∧ Q (.bl (decide (a = b))) H) := by
  intro pins s σ H x y v u Q inv rx ry want
  obtain ⟨i, j, rfl, rfl, q⟩ := want
  refine op_eq pins s σ H _ _ v u Q inv rx ry ⟨rfl, ?_⟩
  rw [show decide (V.str i = V.str j) = decide (i = j) from decide_eq_decide.mpr ⟨fun z => V.str.inj z, fun z => congrArg V.str z⟩]
  exact q
theorem op_nes : OpR X (compareOp .NotEq) (fun x y H Q => ∃ a b, x = .str a ∧ y = .str b ∧ Q (.bl (!decide (a = b))) H) := by
  intro pins s σ H x y v u Q inv rx ry want
  obtain ⟨i, j, rfl, rfl, q⟩ := want
  refine op_ne pins s σ H _ _ v u Q inv rx ry ⟨rfl, ?_⟩
  rw [show decide (V.str i = V.str j) = decide (i = j) from decide_eq_decide.mpr ⟨fun z => V.str.inj z, fun z => congrArg V.str z⟩]
  exact q
end
/-! ### parts of tuples -/
theorem cut_last (xs : List V) (v : V) : cutV (xs ++ [v]) none (some (-1)) = xs := by
  unfold cutV HT.sIx
  simp only [List.length_append, List.length_singleton]
  rw [if_pos (by decide)]
  rw [List.drop_zero, show ((-1 + ((xs.length + 1 : Nat) : Int)).toNat - 0) = xs.length from by omega]
  simp
theorem cut_last_whole (xs : List V) (v : V) : ¬ (HT.sIx (xs ++ [v]).length 0 none = 0 ∧ HT.sIx (xs ++ [v]).length (xs ++ [v]).length (some (-1)) = (xs ++ [v]).length) := by
  unfold HT.sIx
  simp only [List.length_append, List.length_singleton]
  rw [if_pos (by decide)]
  omega
theorem cut_to (xs : List V) (n : Nat) : cutV xs none (some (n : Int)) = xs.take n := by
  unfold cutV
  rw [HT.sIx_none, HT.sIx_nat, List.drop_zero, Nat.sub_zero]
  rcases Nat.le_total n xs.length with h | h
  · rw [Nat.min_eq_left h]
  · rw [Nat.min_eq_right h, List.take_of_length_le (Nat.le_refl _), List.take_of_length_le h]
theorem cut_from (xs : List V) (n : Nat) : cutV xs (some (n : Int)) none = xs.drop n := by
  unfold cutV
  rw [HT.sIx_none, HT.sIx_nat]
  rcases Nat.le_total n xs.length with h | h
  · rw [Nat.min_eq_left h, List.take_of_length_le (by rw [List.length_drop]; exact Nat.le_refl _)]
  · rw [Nat.min_eq_right h, List.drop_of_length_le (Nat.le_refl _), List.drop_of_length_le h, List.take_nil]
/-- a slice of a tuple: the tuple itself, or a new one, of these items -/
def rCut (K : PySem.W.Frag) : V → Option Int → Option Int → Hp → VK → Prop := fun x lo hi H Q => ∃ a xs, x = .ref a ∧ SqT K H a xs ∧
  ∀ p H', Same H H' → SqT K H' p (cutV xs lo hi) → Q (.ref p) H'
theorem sl_cut {X : Cx} : SlR X (rCut X.K) := by
  intro pins s σ H x v vl vu lo hi sl Q inv rx hs pl pu want
  obtain ⟨a, xs, rfl, hx, q⟩ := want
  refine sl_tupA pins s σ H _ v vl vu lo hi sl Q inv rx hs pl pu ⟨a, xs, rfl, hx, fun whole => q a H (Same.refl H) ?_, fun _ p hp => q p _ (same_new hp _) (SqT.of upd_same)⟩
  have e : cutV xs lo hi = xs := by
    unfold cutV
    rw [whole.1, whole.2, List.drop_zero, Nat.sub_zero, List.take_of_length_le (Nat.le_refl _)]
  rw [e]
  exact hx
/-- t + u: one of the two, or a new tuple, of these items -/
def rPlus (K : PySem.W.Frag) : R2 := fun x y H Q => ∃ a b xs ys, x = .ref a ∧ y = .ref b ∧ SqT K H a xs ∧ SqT K H b ys ∧ xs.length + ys.length ≤ sizeLine ∧
  ∀ p H', Same H H' → SqT K H' p (xs ++ ys) → Q (.ref p) H'
theorem op_plus {X : Cx} : OpR X (binaryOp .Add) (rPlus X.K) := by
  intro pins s σ H x y v u Q inv rx ry want
  obtain ⟨a, b, xs, ys, rfl, rfl, ha, hb, hz, q⟩ := want
  refine op_catA pins s σ H _ _ v u Q inv rx ry ⟨a, b, xs, ys, rfl, rfl, ha, hb, hz, fun e => q b H (Same.refl H) ?_, fun _ e => q a H (Same.refl H) ?_, fun _ _ p hp => q p _ (same_new hp _) (SqT.of upd_same)⟩
  · rw [e]
    exact hb
  · rw [e, List.append_nil]
    exact ha
theorem small16 {n : Nat} (h : n ≤ 100000) : n ≤ sizeLine := Nat.le_trans h (by decide)
end LG
/-! ### error classes of the text -/
namespace LG
open PySem PySem.Spec PyProof.Rows L2
/-- the class of this name over ValueError -/
structure Err (K : PySem.W.Frag) (mg : Str → Option Value) (x : Str) (C : Addr) : Prop where
  xi : PySem.W.excIn K C [.type "ValueError", .type "Exception", .type "BaseException", .type "object"] "ValueError.__new__" = true
  g : mg x = some (.ref C)
  k : PySem.W.keepIn K (.ref C) = true
  b : PySem.W.subIn K (.ref C) (.type "BaseException") = some true
  t : PySem.W.typeIn K (.ref C) = some (.type "type")
/-- what a clause for the class at D makes of an error of the class at C -/
theorem exm_of2 {K : PySem.W.Frag} {C D : Addr} {r : Bool} (h1 : PySem.W.subIn K (.ref D) (.type "BaseException") = some true) (h2 : PySem.W.isClsIn K D = true) (h3 : PySem.W.typeIn K (.ref D) = some (.type "type")) (h4 : PySem.W.subIn K (.ref C) (.ref D) = some r) :
    PySem.W.exmOne K (.ref C) (.ref D) = some r := by
  show (if (PySem.W.subIn K (.ref D) (.type "BaseException") == some true) = true then (if (PySem.W.isClsIn K D && PySem.W.typeIn K (.ref D) == some (.type "type")) = true then PySem.W.subIn K (.ref C) (.ref D) else none) else none) = some r
  rw [h1, h2, h3, h4]
  rfl
end LG
/-! ### the hand from which the law takes its draws -/
namespace LG
open PySem PySem.Spec PyProof.Rows L2
/-- hand at h: the draws at d, how many were taken -/
def Hand (H : Hp) (h d : Addr) (ds : List Int) (n : Nat) : Prop := H h = some (.lst [.ref d, .int n]) ∧ H d = some (.lst (ds.map V.int))
section
variable {H H' : Hp} {h d : Addr} {ds : List Int} {n : Nat}
theorem Hand.ne (x : Hand H h d ds n) : d ≠ h := by
  rintro rfl
  have e := x.1.symm.trans x.2
  cases ds with
  | nil => cases e
  | cons z ds => cases e
theorem Hand.next (x : Hand H h d ds n) : Hand (upd H h (.lst [.ref d, .int ((n + 1 : Nat) : Int)])) h d ds (n + 1) := ⟨upd_same, by rw [upd_ne x.ne]; exact x.2⟩
theorem Hand.same (x : Hand H h d ds n) (s : Same H H') : Hand H' h d ds n := ⟨s _ _ x.1, s _ _ x.2⟩
theorem Hand.tups (x : Hand H h d ds n) : TupsStay H (upd H h (.lst [.ref d, .int ((n + 1 : Nat) : Int)])) := tups_lst x.1
/-- another list stays -/
theorem Hand.keep {a : Addr} {ns : List Int} (x : Hand H h d ds n) (e : H a = some (.lst (ns.map V.int))) : (upd H h (.lst [.ref d, .int ((n + 1 : Nat) : Int)])) a = some (.lst (ns.map V.int)) := by
  rw [upd_ne]
  · exact e
  rintro rfl
  have q := x.1.symm.trans e
  cases ns with
  | nil => cases q
  | cons z ns => cases q
end
end LG
/-! ### data of any kind, outside the places that may change -/
namespace LG
open PySem PySem.Spec PyProof.Rows L2
/-- what lies outside M stays, and all tuples -/
structure Go (M : Addr → Prop) (H H' : Hp) : Prop where
  out : ∀ b o, ¬ M b → H b = some o → H' b = some o
  tups : TupsStay H H'
section
variable {M : Addr → Prop} {H H1 H' : Hp} {K : PySem.W.Frag}
theorem Go.refl (H : Hp) : Go M H H := ⟨fun _ _ _ e => e, TupsStay.refl H⟩
theorem Go.trans (a : Go M H H1) (b : Go M H1 H') : Go M H H' := ⟨fun c o m e => b.out c o m (a.out c o m e), a.tups.trans b.tups⟩
theorem _root_.L2.Same.go (s : Same H H') : Go M H H' := ⟨fun b o _ e => s b o e, s.tups⟩
theorem Go.put {a : Addr} {xs ys : List V} (m : M a) (h : H a = some (.lst xs)) : Go M H (upd H a (.lst ys)) := ⟨fun b u n e => by
  rw [upd_ne (fun z => n (by rw [z]; exact m))]
  exact e, tups_lst h⟩
theorem Go.new {p : Addr} (h : H p = none) (o : HO) : Go M H (L2.upd H p o) := L2.Same.go (same_new h o)
theorem Go.seqL {a : Addr} {xs : List V} (s : Go M H H') (m : ¬ M a) (h : SqL K H a xs) : SqL K H' a xs := by
  rcases h with (h | ⟨o, h⟩) | h
  · exact .inl (.inl (s.out _ _ m h))
  · exact .inl (.inr ⟨o, s.out _ _ m h⟩)
  · exact .inr h
theorem Go.seqT {a : Addr} {xs : List V} (s : Go M H H') (h : SqT K H a xs) : SqT K H' a xs := s.tups.seq h
end
mutual
inductive Dv (M : Addr → Prop) (K : PySem.W.Frag) (H : Hp) : V → PyData → Prop
  | non : Dv M K H .non .none
  | bl (b : Bool) : Dv M K H (.bl b) (.bool b)
  | int (i : Int) : Dv M K H (.int i) (.int i)
  | str (x : Str) : Dv M K H (.str x) (.str x)
  | lst {a : Addr} {xs : List V} {ds : List PyData} : ¬ M a → SqL K H a xs → DvAll M K H xs ds → Dv M K H (.ref a) (.list ds)
  | tup {a : Addr} {xs : List V} {ds : List PyData} : SqT K H a xs → DvAll M K H xs ds → Dv M K H (.ref a) (.tuple ds)
inductive DvAll (M : Addr → Prop) (K : PySem.W.Frag) (H : Hp) : List V → List PyData → Prop
  | nil : DvAll M K H [] []
  | cons {v : V} {vs : List V} {d : PyData} {ds : List PyData} : Dv M K H v d → DvAll M K H vs ds → DvAll M K H (v :: vs) (d :: ds)
end
section
variable {M M' : Addr → Prop} {K : PySem.W.Frag} {H H' : Hp}
mutual
theorem Dv.dp : ∀ {v : V} {d : PyData}, Dv M K H v d → Dp K H v d
  | _, _, .non => .non
  | _, _, .bl b => .bl b
  | _, _, .int i => .int i
  | _, _, .str x => .str x
  | _, _, .lst _ h a => .lst h a.dp
  | _, _, .tup h a => .tup h a.dp
theorem DvAll.dp : ∀ {vs : List V} {ds : List PyData}, DvAll M K H vs ds → DpAll K H vs ds
  | _, _, .nil => .nil
  | _, _, .cons h a => .cons h.dp a.dp
end
mutual
theorem Dv.stay (t : Go M H H') : ∀ {v : V} {d : PyData}, Dv M K H v d → Dv M K H' v d
  | _, _, .non => .non
  | _, _, .bl b => .bl b
  | _, _, .int i => .int i
  | _, _, .str x => .str x
  | _, _, .lst m h a => .lst m (t.seqL m h) (a.stay t)
  | _, _, .tup h a => .tup (t.seqT h) (a.stay t)
theorem DvAll.stay (t : Go M H H') : ∀ {vs : List V} {ds : List PyData}, DvAll M K H vs ds → DvAll M K H' vs ds
  | _, _, .nil => .nil
  | _, _, .cons h a => .cons (h.stay t) (a.stay t)
end
theorem DvAll.len : ∀ {vs : List V} {ds : List PyData}, DvAll M K H vs ds → vs.length = ds.length
  | _, _, .nil => rfl
  | _, _, .cons _ a => by rw [List.length_cons, List.length_cons, a.len]
theorem DvAll.at : ∀ {vs : List V} {ds : List PyData} {i : Nat} {d : PyData}, DvAll M K H vs ds → ds[i]? = some d → ∃ v, vs[i]? = some v ∧ Dv M K H v d
  | _, _, _, _, .nil, e => by simp at e
  | _, _, 0, _, .cons h _, e => by simp at e; subst e; exact ⟨_, rfl, h⟩
  | _, _, i + 1, d, .cons _ a, e => by simpa using a.at (i := i) (by simpa using e)
theorem DvAll.of : ∀ {vs : List V} {ds : List PyData} {i : Nat} {v : V}, DvAll M K H vs ds → vs[i]? = some v → ∃ d, ds[i]? = some d ∧ Dv M K H v d
  | _, _, _, _, .nil, e => by simp at e
  | _, _, 0, _, .cons h _, e => by simp at e; subst e; exact ⟨_, rfl, h⟩
  | _, _, i + 1, d, .cons _ a, e => by simpa using a.of (i := i) (by simpa using e)
theorem DvAll.app : ∀ {vs ws : List V} {ds es : List PyData}, DvAll M K H vs ds → DvAll M K H ws es → DvAll M K H (vs ++ ws) (ds ++ es)
  | _, _, _, _, .nil, b => b
  | _, _, _, _, .cons h a, b => .cons h (a.app b)
theorem DvAll.take : ∀ {vs : List V} {ds : List PyData} (n : Nat), DvAll M K H vs ds → DvAll M K H (vs.take n) (ds.take n)
  | _, _, 0, _ => .nil
  | _, _, _ + 1, .nil => .nil
  | _, _, n + 1, .cons h a => .cons h (a.take n)
theorem DvAll.drop : ∀ {vs : List V} {ds : List PyData} (n : Nat), DvAll M K H vs ds → DvAll M K H (vs.drop n) (ds.drop n)
  | _, _, 0, a => a
  | _, _, _ + 1, .nil => .nil
  | _, _, n + 1, .cons _ a => a.drop n
theorem DvAll.ints : ∀ (ns : List Int), DvAll M K H (ns.map V.int) (ns.map PyData.int)
  | [] => .nil
  | n :: ns => .cons (.int n) (DvAll.ints ns)
/-- the built-in type of data -/
def tyD : PyData → String
  | .none => "NoneType"
  | .bool _ => "bool"
  | .int _ => "int"
  | .str _ => "str"
  | .list _ => "list"
  | .tuple _ => "tuple"
  | .dict _ => "dict"
theorem tyx_lst {a : Addr} {xs : List V} (h : SqL K H a xs) : TyX K H (.ref a) (.type "list") := by
  rcases h with (h | ⟨o, h⟩) | ⟨o, its, n, hk, hc, _⟩
  · exact .base (.lst h)
  · exact .base (.frz h)
  · exact .kList hk hc
theorem tyx_tup {a : Addr} {xs : List V} (h : SqT K H a xs) : TyX K H (.ref a) (.type "tuple") := by
  rcases h with (h | ⟨o, h⟩) | ⟨o, its, n, hk, hc, _⟩
  · exact .base (.tup h)
  · exact .fTuple h
  · exact .kTuple hk hc
theorem Dv.ty {v : V} {d : PyData} (h : Dv M K H v d) : TyX K H v (.type (tyD d)) := by
  cases h with
  | non => exact .base .non
  | bl b => exact .base (.bl b)
  | int i => exact .base (.int i)
  | str x => exact .base (.str x)
  | lst _ h _ => exact tyx_lst h
  | tup h _ => exact tyx_tup h
/-- a dict with few keys, at the top of a value: what repr tells of it -/
def keyD : Key → PyData
  | .inl i => .int i
  | .inr x => .str x
/-- data, or a dict of such without lists -/
inductive Dq (M : Addr → Prop) (K : PySem.W.Frag) (H : Hp) : V → PyData → Prop
  | data {v : V} {d : PyData} : Dv M K H v d → Dq M K H v d
  | dct {a : Addr} {kvs : List (Key × V)} {ds : List PyData} : ¬ M a → H a = some (.dK kvs) → DtAll K H (kvs.map (·.2)) ds → Dq M K H (.ref a) (.dict ((kvs.map fun p => keyD p.1).zip ds))
end
section
variable {M : Addr → Prop} {K : PySem.W.Frag} {H H' : Hp}
mutual
theorem Dt.dv : ∀ {v : V} {d : PyData}, Dt K H v d → Dv M K H v d
  | _, _, .non => .non
  | _, _, .bl b => .bl b
  | _, _, .int i => .int i
  | _, _, .str x => .str x
  | _, _, .tup h a => .tup h a.dv
theorem DtAll.dv : ∀ {vs : List V} {ds : List PyData}, DtAll K H vs ds → DvAll M K H vs ds
  | _, _, .nil => .nil
  | _, _, .cons h a => .cons h.dv a.dv
end
theorem Dq.stay {v : V} {d : PyData} (t : Go M H H') (h : Dq M K H v d) : Dq M K H' v d := by
  cases h with
  | data h => exact .data (h.stay t)
  | dct m h a => exact .dct m (t.out _ _ m h) (a.stay t.tups)
theorem Dq.ty {v : V} {d : PyData} (h : Dq M K H v d) : TyX K H v (.type (tyD d)) := by
  cases h with
  | data h => exact h.ty
  | dct _ h _ => exact .base (.dK h)
end
section
variable {X : Cx} {pins : List (Addr × Obj)} {σ : L2.St} {H : Hp} {s : Shared} {M : Addr → Prop}
mutual
/-- data without lists is read without a list's place -/
theorem Dt.bare (I : Inv X pins σ H s) : ∀ (d : PyData) (v : V) (u : Value), Dt X.K H v d → RelV v u → Reads s.heap u d []
  | .none, _, _, h, r => by
    cases h
    cases r
    exact Reads.none
  | .bool b, _, _, h, r => by
    cases h
    cases r
    exact Reads.bool b
  | .int i, _, _, h, r => by
    cases h
    obtain ⟨t, rfl⟩ := r
    exact Reads.int i t
  | .str x, _, _, h, r => by
    cases h
    obtain ⟨t, rfl⟩ := r
    exact Reads.str x t
  | .tuple ds, _, _, h, r => by
    cases h with
    | tup hs ha =>
      cases r
      obtain ⟨its, rv, ⟨o, ho, hc, n, hd⟩, _⟩ := I.tuple hs
      exact Reads.tuple ho hc hd (DtAll.bare I ds _ its ha rv)
  | .list _, _, _, h, _ => by cases h
  | .dict _, _, _, h, _ => by cases h
theorem DtAll.bare (I : Inv X pins σ H s) : ∀ (ds : List PyData) (vs : List V) (us : List Value), DtAll X.K H vs ds → Vals vs us → ReadsAll s.heap us ds []
  | [], _, _, h, r => by
    cases h
    cases r
    exact ReadsAll.nil
  | d :: ds, _, _, h, r => by
    cases h with
    | cons h1 h2 =>
      cases r with
      | cons r1 r2 => exact ReadsAll.cons (Dt.bare I d _ _ h1 r1) (DtAll.bare I ds _ _ h2 r2)
end
/-- a dict's keys and values -/
theorem pairs_read {P : Program} {w : World} {kvs : List (Key × V)} {vs : List (Key × Value)} {es : List DictEntry} (kv : KV kvs vs) (ps : Pairs (mixKind P w) es vs) :
    Vals (kvs.map fun p => kV p.1) (es.map (·.key)) ∧ Vals (kvs.map (·.2)) (es.map (·.val)) := by
  induction ps generalizing kvs with
  | nil =>
    cases kv
    exact ⟨.nil, .nil⟩
  | cons hk hv _ ih =>
    cases kv with
    | cons r rr =>
      obtain ⟨i1, i2⟩ := ih rr
      obtain ⟨e1, e2⟩ := r
      refine ⟨.cons ?_ i1, .cons ?_ i2⟩
      · rw [← e1] at hk
        have hk' : keyIs _ _ = true := hk
        rcases keyIs_shape hk' with ⟨i, t, e, q⟩ | ⟨x, t, e, q⟩
        · show RelV (kV _) (DictEntry.key _)
          rw [e, q]
          exact ⟨t, rfl⟩
        · show RelV (kV _) (DictEntry.key _)
          rw [e, q]
          exact ⟨t, rfl⟩
      · show RelV (Prod.snd _) (DictEntry.val _)
        rw [hv]
        exact e2
theorem keys_dt {K : PySem.W.Frag} : ∀ kvs : List (Key × V), DtAll K H (kvs.map fun p => kV p.1) (kvs.map fun p => keyD p.1)
  | [] => .nil
  | (.inl i, v) :: r => .cons (.int i) (keys_dt r)
  | (.inr x, v) :: r => .cons (.str x) (keys_dt r)
/-- repr of such data -/
def rRepV (K : PySem.W.Frag) : List V → Hp → VK → Prop := fun xs H Q => ∃ (M : Addr → Prop) (v : V) (d : PyData), xs = [v] ∧ Dq M K H v d ∧ d.showable = true ∧ d.depth ≤ 60 ∧ d.shown.length ≤ sizeLine ∧ Q (.str d.shown) H
theorem call_repV (guard : X.A.guards = some []) (room : X.A.units + 64 < cLine) : CallR X (.builtin "repr") (rRepV X.K) := by
  intro pins s σ H xs us Q inv rel want
  obtain ⟨M, v, d, e, hd, h1, h2, h3, q⟩ := want
  cases hd with
  | data hd => exact call_rep guard room pins s σ H xs us Q inv rel ⟨v, d, e, hd.dp, h1, h2, h3, q⟩
  | @dct a kvs ds _ ha hv =>
    subst e
    cases rel with
    | cons r0 rr =>
      cases rr
      cases r0
      obtain ⟨_, sys, vs, kv, o, es, ep, ho, ex, hdat, _, ps, _⟩ := (show ObjOk X.prog X.w H s.heap a (.dK kvs) from inv.hok a _ ha)
      obtain ⟨r1, r2⟩ := pairs_read kv ps
      have k1 := DtAll.bare inv _ _ _ (keys_dt kvs) r1
      have k2 := DtAll.bare inv _ _ _ hv r2
      have len : (kvs.map fun p => keyD p.1).length = ds.length := by rw [List.length_map, ← hv.len, List.length_map]
      have z1 : ((kvs.map fun p => keyD p.1).zip ds).map (·.1) = kvs.map fun p => keyD p.1 := List.map_fst_zip (by rw [len]; exact Nat.le_refl _)
      have z2 : ((kvs.map fun p => keyD p.1).zip ds).map (·.2) = ds := List.map_snd_zip (by rw [len]; exact Nat.le_refl _)
      have reads : Reads s.heap (.ref a) (.dict ((kvs.map fun p => keyD p.1).zip ds)) (a :: [] ++ []) := Reads.dict ho ex.1 hdat (by rw [z1]; exact k1) (by rw [z2]; exact k2)
      refine repr_of_reads' reads h1 (fun _ mem => ?_) guard (by omega) (fun _ _ z => z) (fun h' u' tk keep => ⟨.str _, H, inv.kept keep, ⟨_, rfl⟩, q⟩) h3
      have e : sysModules = a := by simpa using mem
      rw [e] at sys
      simp at sys
end
end LG
namespace LG
open PySem PySem.Spec PyProof.Rows L2
section
variable {M : Addr → Prop} {K : PySem.W.Frag} {H H' : Hp}
/-- what was made since is changed -/
theorem Go.own {p : Addr} (g : Go M H H') (h : H p = none) (o : HO) : Go M H (L2.upd H' p o) := ⟨fun b u m e => by
  rw [upd_ne (ne_of_none e h)]
  exact g.out b u m e, fun b u k e => by
  rw [upd_ne (ne_of_none e h)]
  exact g.tups b u k e⟩
theorem Hand.off {h d p : Addr} {ds : List Int} {n : Nat} (x : Hand H h d ds n) (hp : p ≠ h) (dp : p ≠ d) (o : HO) : Hand (L2.upd H p o) h d ds n := ⟨by rw [upd_ne hp.symm]; exact x.1, by rw [upd_ne dp.symm]; exact x.2⟩
theorem Hand.go {h d : Addr} {ds : List Int} {n : Nat} (x : Hand H h d ds n) : Go (· = h) H (L2.upd H h (.lst [.ref d, .int ((n + 1 : Nat) : Int)])) := Go.put rfl x.1
theorem Hand.new {h d p : Addr} {ds : List Int} {n : Nat} (x : Hand H h d ds n) (hp : H p = none) (o : HO) : Hand (L2.upd H p o) h d ds n := x.same (same_new hp o)
theorem at_any {α : Type} {xs : List α} {i : Int} (h0 : -(xs.length : Int) ≤ i) (h1 : i < (xs.length : Int)) : ∃ (j : Nat) (y : α), xs[j]? = some y ∧ atI xs i = some y := by
  by_cases h : 0 ≤ i
  · have lt : i.toNat < xs.length := by omega
    refine ⟨i.toNat, xs[i.toNat], by simp [lt], ?_⟩
    unfold atI ixN
    rw [if_pos h, if_pos h1]
    simp [lt]
  · have lt : (i + (xs.length : Int)).toNat < xs.length := by omega
    refine ⟨(i + (xs.length : Int)).toNat, xs[(i + (xs.length : Int)).toNat], by simp [lt], ?_⟩
    unfold atI ixN
    rw [if_neg h, if_pos h0]
    simp [lt]
/-- some item of a row of data -/
theorem DvAll.pick {xs : List V} {ds : List PyData} {i : Int} (a : DvAll M K H xs ds) (h0 : -(ds.length : Int) ≤ i) (h1 : i < (ds.length : Int)) : ∃ y e, atI xs i = some y ∧ e ∈ ds ∧ Dv M K H y e := by
  rw [← a.len] at h0 h1
  obtain ⟨j, y, hj, hy⟩ := at_any h0 h1
  obtain ⟨e, he, d⟩ := a.of hj
  exact ⟨y, e, hy, List.mem_of_getElem? he, d⟩
theorem DtAll.pick {xs : List V} {ds : List PyData} {i : Int} (a : DtAll K H xs ds) (h0 : -(ds.length : Int) ≤ i) (h1 : i < (ds.length : Int)) : ∃ y e, atI xs i = some y ∧ e ∈ ds ∧ Dt K H y e := by
  rw [← a.len] at h0 h1
  obtain ⟨j, y, hj, hy⟩ := at_any h0 h1
  obtain ⟨e, he, d⟩ := a.of hj
  exact ⟨y, e, hy, List.mem_of_getElem? he, d⟩
inductive DqAll (M : Addr → Prop) (K : PySem.W.Frag) (H : Hp) : List V → List PyData → Prop
  | nil : DqAll M K H [] []
  | cons {v : V} {vs : List V} {d : PyData} {ds : List PyData} : Dq M K H v d → DqAll M K H vs ds → DqAll M K H (v :: vs) (d :: ds)
theorem DqAll.len : ∀ {vs : List V} {ds : List PyData}, DqAll M K H vs ds → vs.length = ds.length
  | _, _, .nil => rfl
  | _, _, .cons _ a => by rw [List.length_cons, List.length_cons, a.len]
theorem DqAll.of : ∀ {vs : List V} {ds : List PyData} {i : Nat} {v : V}, DqAll M K H vs ds → vs[i]? = some v → ∃ d, ds[i]? = some d ∧ Dq M K H v d
  | _, _, _, _, .nil, e => by simp at e
  | _, _, 0, _, .cons h _, e => by simp at e; subst e; exact ⟨_, rfl, h⟩
  | _, _, i + 1, d, .cons _ a, e => by simpa using a.of (i := i) (by simpa using e)
theorem DqAll.pick {xs : List V} {ds : List PyData} {i : Int} (a : DqAll M K H xs ds) (h0 : -(ds.length : Int) ≤ i) (h1 : i < (ds.length : Int)) : ∃ y e, atI xs i = some y ∧ e ∈ ds ∧ Dq M K H y e := by
  rw [← a.len] at h0 h1
  obtain ⟨j, y, hj, hy⟩ := at_any h0 h1
  obtain ⟨e, he, d⟩ := a.of hj
  exact ⟨y, e, hy, List.mem_of_getElem? he, d⟩
theorem DqAll.stay (t : Go M H H') : ∀ {vs : List V} {ds : List PyData}, DqAll M K H vs ds → DqAll M K H' vs ds
  | _, _, .nil => .nil
  | _, _, .cons h a => .cons (h.stay t) (a.stay t)
/-- two parts -/
theorem sized_two {m1 m2 h1 h2 : Nat} {a b : PyData} (sa : Sized m1 h1 a) (sb : Sized m2 h2 b) : Sized (m1 + m2 + 2) (max h1 h2 + 1) (.tuple [a, b]) := by
  obtain ⟨a1, a2, a3, a4⟩ := sa
  obtain ⟨b1, b2, b3, b4⟩ := sb
  refine ⟨?_, ?_, ?_, ?_⟩
  · simp only [PyData.leavesShort, PyData.leavesShortAll, a1, b1, Bool.and_self]
  · simp only [PyData.showable, PyData.showableAll, a2, b2, Bool.and_self]
  · simp only [PyData.depth, PyData.depthAll]
    omega
  · simp only [PyData.bulk, PyData.bulkAll]
    omega
theorem sized_str (x : Str) (h : (x.cps.toList.all fun c => decide (c < 16 ^ 8)) = true) (n : Nat) (hn : x.cps.size ≤ n) : Sized n 0 (.str x) := ⟨by simp only [PyData.leavesShort]; exact h, by simp only [PyData.showable], by simp only [PyData.depth]; omega, by simp only [PyData.bulk]; exact hn⟩
end
end LG
namespace Lw
open PySem PySem.Spec PyProof.Rows L2 LG
def top (i : Nat) : Stmt := PySem.Challenge.pw_looksfar_k06_is_view.main.body.getD i (.Pass ⟨0, 0, 0, 0⟩)
abbrev sis_number : Stmt := top 4
abbrev scheck_reach : Stmt := top 5
abbrev sis_view : Stmt := top 9
abbrev s_is_branch : Stmt := top 10
abbrev s_law_draws : Stmt := top 12
abbrev s_law_take : Stmt := top 13
abbrev s_law_integer : Stmt := top 14
abbrev s_law_drawn : Stmt := top 15
abbrev s_law_right : Stmt := top 16
abbrev s_law_here : Stmt := top 17
abbrev s_law_changed : Stmt := top 18
abbrev s_law_value : Stmt := top 19
abbrev s_law_refused : Stmt := top 20
abbrev s_law_all : Stmt := top 21
abbrev slaw : Stmt := top 22
/-- the built-ins that the text uses -/
structure Blt (mg : Str → Option Value) : Prop where
  abs : mg "abs" = none
  int : mg "int" = none
  len : mg "len" = none
  range : mg "range" = none
  tuple : mg "tuple" = none
  isinstance : mg "isinstance" = none
  bool : mg "bool" = none
  repr : mg "repr" = none
  list : mg "list" = none
  max : mg "max" = none
/-- the module's constants -/
structure Cst (mg : Str → Option Value) : Prop where
  MOST_REACH : ∃ t, mg "MOST_REACH" = some (.int 4 t)
  NO_COLOUR : ∃ t, mg "NO_COLOUR" = some (.int 0 t)
/-! ### the draws that the law makes of the script -/
section
variable {P : Program} {w : World} {K : PySem.W.Frag} {mg : Str → Option Value} {base : Heap}
/-- a new list of as many small numbers as are asked -/
def spDraws (K : PySem.W.Frag) : Sp := fun vs H Q _ => ∃ (a : Addr) (ns : List Int) (m : Nat), vs = [.ref a, .int m] ∧ SqL K H a (ns.map V.int) ∧ ns.length ≤ 63 ∧ m ≤ 2000 ∧
  ∀ (p : Addr) (H' : Hp) (ds : List Int), H p = none → Same H H' → H' p = some (.lst (ds.map V.int)) → ds.length = m → (∀ d ∈ ds, 0 ≤ d ∧ d < 2 ^ 31) → Q (.ref p) H'
theorem ok_draws {f : Addr} {fd : FuncData} (B : Blt mg) (F : Fun K "_law_draws" "_law_draws" s_law_draws f fd) : FnOk P w K mg base CX0 1 f fd ["script", "many"] (spDraws K) := by
  have sc : FnScope ["script", "many", "rests", "draws", "k", "cell", "mixed", "at"] ["script", "many"] (defScope s_law_draws) := ⟨rfl, rfl, rfl, by decide +kernel, rfl, by decide +kernel, by decide +kernel⟩
  refine F.ok sc (fun vs H Q E h => ?_) (fun cdv A outer s H vs Q E hr h => ?_)
  · obtain ⟨a, ns, m, rfl, _⟩ := h
    rfl
  obtain ⟨a, ns, m, rfl, hS, h63, hm, k⟩ := h
  refine ⟨_, (pss_cons (ps_setLc (i := 2) (own := [("cell", 5)]) (g := gName 5) (tt := tYes) rfl sc.nd rfl rfl (sw_true rfl rfl rfl (by decide +kernel)) (pi_list (pv 0)) (blkOk_by (N := ["script", "many", "rests", "draws", "k", "cell", "mixed", "at"]) (sc := defScope s_law_draws) (by decide +kernel)) (fun _ _ _ _ _ => pg_name (i := 5) sc.nd rfl (Or.inl rfl)) (fun _ _ _ _ _ => pts_nil) (fun _ _ _ _ _ => (pe_callB call_abs (by rfl) B.abs (by decide +kernel) (pa_cons (pe_callTy call_int1 (by rfl) B.int (by decide +kernel) (pa_cons (pv 5) pa_nil)) pa_nil))))
    (pss_cons (ps_set (i := 3) sc.nd rfl (Or.inl rfl) (pe_lst pa_nil))
    (pss_cons (ps_for PassesOwn.never rfl (pi_range1 (by rfl) B.range (pa_cons (pv 1) pa_nil)) (pg_name (i := 4) sc.nd rfl (Or.inl rfl))
      (pss_cons (ps_set (i := 5) sc.nd rfl (Or.inl rfl) (pv 4))
      (pss_cons (ps_if (pt_cmpR op_gt (pe_callB call_len_seq (by rfl) B.len (by decide +kernel) (pa_cons (pv 0) pa_nil)) pe_int (nomark _))
        (pss_cons (ps_set (i := 7) sc.nd rfl (Or.inl rfl) (pe_op op_mod (pv 4) (pe_callB call_len_seq (by rfl) B.len (by decide +kernel) (pa_cons (pv 0) pa_nil))))
        (pss_cons (ps_set (i := 5) sc.nd rfl (Or.inl rfl) (pe_callTy call_int1 (by rfl) B.int (by decide +kernel) (pa_cons (pe_ix ix_list (pv 0) (pv 7) (fun _ _ => rfl)) pa_nil)))
        (pss_one (ps_if (PW.pt (pw_and (pt_cmpR op_ge (pv 5) (pe_op op_pow pe_int pe_int) (nomark _)) (pw_and1 (pt_cmpR op_gt (pe_ix ix_list (pv 2) (pv 7) (fun _ _ => rfl)) pe_int (nomark _)))))
          (pss_cons (ps_expr (pe_bm PySem.F.plainAttrs_list PySem.F.slot_list_append PySem.F.type_list_append mt_append (pv 3) (pa_cons (pe_op op_mod (pe_callTy call_int1 (by rfl) B.int (by decide +kernel) (pa_cons (pe_ix ix_list (pv 2) (pv 7) (fun _ _ => rfl)) pa_nil)) pe_int) pa_nil)))
          (pss_cons (ps_asg (pe_op op_fdiv (pe_callTy call_int1 (by rfl) B.int (by decide +kernel) (pa_cons (pe_ix ix_list (pv 2) (pv 7) (fun _ _ => rfl)) pa_nil)) pe_int) (pg_sub (pv 2) (pv 7) set_list))
          (pss_one ps_continue)))
          pss_nil))))
        pss_nil)
      (pss_cons (ps_set (i := 6) sc.nd rfl (Or.inl rfl) (pe_op op_mod (pe_callTy call_int1 (by rfl) B.int (by decide +kernel) (pa_cons (pe_op op_add (pe_op op_add (pe_op op_mul (pv 5) pe_int) (pe_op op_mul (pv 4) pe_int)) pe_int) pa_nil)) pe_int))
      (pss_cons (ps_set (i := 6) sc.nd rfl (Or.inl rfl) (pe_op op_mod (pe_callTy call_int1 (by rfl) B.int (by decide +kernel) (pa_cons (pe_op op_add (pe_op op_fdiv (pe_op op_mul (pv 6) (pv 6)) pe_int) (pv 6)) pa_nil)) pe_int))
      (pss_one (ps_expr (pe_bm PySem.F.plainAttrs_list PySem.F.slot_list_append PySem.F.type_list_append mt_append (pv 3) (pa_cons (pe_op op_mod (pe_callTy call_int1 (by rfl) B.int (by decide +kernel) (pa_cons (pe_op op_add (pe_op op_fdiv (pe_op op_mul (pv 6) (pv 6)) pe_int) (pe_op op_mul (pv 4) pe_int)) pa_nil)) pe_int) pa_nil)))))))))
    (pss_one (ps_ret (pv 3)))))), ?_⟩
  -- rests
  refine ⟨_, rfl, a, rfl, ⟨_, hS⟩, fun r hr0 => ?_⟩
  refine lc_list (K := K) (a := a) (xs := ns.map V.int) (fun i H' => ∃ acc : List Int, acc.length = i ∧ H' r = some (.lst (acc.map V.int)) ∧ Same H H')
    ⟨[], rfl, upd_same, same_new hr0 _⟩ (fun i H' _ ⟨_, _, _, s⟩ => s.seq hS) ?_ ?_
  · rintro i y H' hi ⟨acc, hl, hD, s⟩
    obtain ⟨z, hz, rfl⟩ := item_of hi
    have hi63 : i < ns.length := (List.getElem?_eq_some_iff.mp hz).1
    refine ⟨rfl, ?_⟩

    refine ⟨_, rfl, .inl ⟨_, rfl, _, rfl, _, hD, small1000 (by rw [List.length_map]; omega), acc ++ [if z < 0 then -z else z], by simp [hl], ?_, same_own s hr0 _⟩⟩
    rw [upd_same, List.map_append]
    rfl
  rintro H1 ⟨rs, hrs, hr1, s1⟩
  rw [List.length_map] at hrs
  -- draws
  refine ⟨Nat.zero_le _, fun p hp1 => ?_⟩
  have hp0 : H p = none := s1.free hp1
  have npr : r ≠ p := ne_of_none hr1 hp1
  -- the loop
  refine ⟨_, rfl, (m : Int), rfl, by omega, by omega, for_range (lo := 0) (n := (m : Int).toNat) (fun i σ H' => ∃ (ds rs : List Int) (kv cv mv av : Option V), σ = [some (.ref a), some (.int m), some (.ref r), some (.ref p), kv, cv, mv, av] ∧
      H' r = some (.lst (rs.map V.int)) ∧ H' p = some (.lst (ds.map V.int)) ∧ rs.length = ns.length ∧ ds.length = i ∧ (∀ d ∈ ds, 0 ≤ d ∧ d < 2 ^ 31) ∧ Same H H')
    ⟨[], rs, none, none, none, none, rfl, by rw [upd_ne npr]; exact hr1, upd_same, hrs, rfl, by simp, same_own s1 hp0 _⟩ ?_ ?_⟩
  · rintro i σ H' hi ⟨ds, rs, kv, cv, mv, av, rfl, hr', hp', hrl, hdl, hb, s⟩
    have hi2 : ds.length < 2000 := by omega
    have grown : ∀ (d : Int), 0 ≤ d → d < 2 ^ 31 → ∀ z ∈ ds ++ [d], 0 ≤ z ∧ z < 2 ^ 31 := fun d h0 h1 z hz => by
      rcases List.mem_append.mp hz with q | q
      · exact hb z q
      · rw [List.mem_singleton.mp q]
        exact ⟨h0, h1⟩
    have put : ∀ (d : Int), (upd H' p (.lst (ds.map V.int ++ [V.int d]))) p = some (.lst ((ds ++ [d]).map V.int)) := fun d => by
      rw [upd_same, List.map_append]
      rfl
    have room : (ds.map V.int).length < sizeLine := by rw [List.length_map]; exact Nat.lt_trans hi2 (by decide)
    have m48 : -(2 ^ 64) < (48271 : Int) ∧ (48271 : Int) < 2 ^ 64 := by decide
    have m69 : -(2 ^ 64) < (69621 : Int) ∧ (69621 : Int) < 2 ^ 64 := by decide
    have m79 : -(2 ^ 64) < (7919 : Int) ∧ (7919 : Int) < 2 ^ 64 := by decide
    have b1 : ∀ x : Int, -(2 ^ 64) < x % 2147483647 ∧ x % 2147483647 < 2 ^ 64 := fun x => by omega
    have b2 : ∀ x : Int, -(2 ^ 64) < x % 2147483629 ∧ x % 2147483629 < 2 ^ 64 := fun x => by omega
    refine ⟨_, rfl, ?_⟩
    refine ⟨_, rfl, a, _, rfl, .inl (s.seq hS), _, _, rfl, rfl, _, rfl, ?_⟩
    refine ite2 (fun c => ?_) (fun c => ?_)
    · have c' := dec_t c
      rw [List.length_map] at c'
      have m0 : 0 ≤ (0 + (i : Int)) % (ns.length : Int) := Int.emod_nonneg _ (by omega)
      have m1 : (0 + (i : Int)) % (ns.length : Int) < (ns.length : Int) := Int.emod_lt_of_pos _ c'
      obtain ⟨z, _, _, hz⟩ := at_int m0 m1
      obtain ⟨y, hy0, _, hy⟩ := at_int (ns := rs) m0 (by rw [hrl]; exact m1)
      refine ⟨_, rfl, _, rfl, a, _, rfl, .inl (s.seq hS), _, _, rfl, rfl, (by rw [List.length_map]; exact c'), ?_⟩
      rw [List.length_map]
      refine ⟨_, rfl, _, rfl, a, _, _, _, rfl, rfl, s.seq hS, hz, .inl ⟨_, rfl, ?_⟩⟩
      refine ⟨_, rfl, _, _, rfl, rfl, ⟨by decide, by decide, by decide⟩, _, _, rfl, rfl, _, rfl, ?_⟩
      refine ite2 (fun _ => ?_) (fun _ => ?_)
      · refine ⟨_, rfl, _, rfl, r, _, _, _, rfl, rfl, SqL.of hr', hy, _, _, rfl, rfl, _, rfl, ?_⟩
        refine ite2 (fun _ => ?_) (fun _ => ?_)
        · refine ⟨_, rfl, .inl ⟨rfl, _, SqL.of hp'⟩, _, rfl, _, rfl, r, _, _, _, rfl, rfl, SqL.of hr', hy, .inl ⟨_, rfl, _, _, rfl, rfl, (by show (0 : Int) < 1000003; decide), p, _, _, rfl, rfl, hp', room, ?_⟩⟩
          have hr2 : (upd H' p (.lst (ds.map V.int ++ [V.int (y % 1000003)]))) r = some (.lst (rs.map V.int)) := by rw [upd_ne npr]; exact hr'
          refine ⟨_, rfl, _, rfl, r, _, _, _, rfl, rfl, SqL.of hr2, hy, .inl ⟨_, rfl, _, _, rfl, rfl, ⟨by decide, by decide⟩, _, rfl, _, rfl, r, _, _, ((0 + (i : Int)) % (ns.length : Int)).toNat, rfl, rfl, hr2, ix_of m0 (by rw [List.length_map, hrl]; exact m1), ?_⟩⟩
          refine ⟨ds ++ [y % 1000003], rs.set ((0 + (i : Int)) % (ns.length : Int)).toNat (y / 1000003), _, _, _, _, rfl, ?_, ?_, by rw [List.length_set]; exact hrl, by rw [List.length_append, List.length_singleton]; omega, grown _ (Int.emod_nonneg _ (by decide)) (Int.lt_trans (Int.emod_lt_of_pos _ (by decide)) (by decide)), same_own (same_own s hp0 _) hr0 _⟩
          · rw [upd_same, List.map_set]
          · rw [upd_ne npr.symm]
            exact put _
        · refine ⟨_, rfl, _, _, rfl, rfl, .inr m48, _, rfl, _, _, rfl, rfl, .inr m69, _, _, rfl, rfl, _, _, rfl, rfl, .inl ⟨_, rfl, _, _, rfl, rfl, (by show (0 : Int) < 2147483647; decide), ?_⟩⟩
          refine ⟨_, rfl, _, rfl, _, _, rfl, rfl, .inl (b1 _), _, _, rfl, rfl, ⟨by decide, by decide⟩, _, rfl, _, _, rfl, rfl, .inl ⟨_, rfl, _, _, rfl, rfl, (by show (0 : Int) < 2147483629; decide), ?_⟩⟩
          refine ⟨_, rfl, .inl ⟨rfl, _, SqL.of hp'⟩, _, rfl, _, rfl, _, _, rfl, rfl, .inl (b2 _), _, _, rfl, rfl, ⟨by decide, by decide⟩, _, rfl, _, _, rfl, rfl, .inr m79, _, _, rfl, rfl, .inl ⟨_, rfl, _, _, rfl, rfl, (by show (0 : Int) < 2147483629; decide), p, _, _, rfl, rfl, hp', room, ?_⟩⟩
          exact ⟨ds ++ [_], rs, _, _, _, _, rfl, by rw [upd_ne npr]; exact hr', put _, hrl, by rw [List.length_append, List.length_singleton]; omega, grown _ (Int.emod_nonneg _ (by decide)) (Int.lt_trans (Int.emod_lt_of_pos _ (by decide)) (by decide)), same_own s hp0 _⟩
      · refine ⟨_, rfl, _, _, rfl, rfl, .inr m48, _, rfl, _, _, rfl, rfl, .inr m69, _, _, rfl, rfl, _, _, rfl, rfl, .inl ⟨_, rfl, _, _, rfl, rfl, (by show (0 : Int) < 2147483647; decide), ?_⟩⟩
        refine ⟨_, rfl, _, rfl, _, _, rfl, rfl, .inl (b1 _), _, _, rfl, rfl, ⟨by decide, by decide⟩, _, rfl, _, _, rfl, rfl, .inl ⟨_, rfl, _, _, rfl, rfl, (by show (0 : Int) < 2147483629; decide), ?_⟩⟩
        refine ⟨_, rfl, .inl ⟨rfl, _, SqL.of hp'⟩, _, rfl, _, rfl, _, _, rfl, rfl, .inl (b2 _), _, _, rfl, rfl, ⟨by decide, by decide⟩, _, rfl, _, _, rfl, rfl, .inr m79, _, _, rfl, rfl, .inl ⟨_, rfl, _, _, rfl, rfl, (by show (0 : Int) < 2147483629; decide), p, _, _, rfl, rfl, hp', room, ?_⟩⟩
        exact ⟨ds ++ [_], rs, _, _, _, _, rfl, by rw [upd_ne npr]; exact hr', put _, hrl, by rw [List.length_append, List.length_singleton]; omega, grown _ (Int.emod_nonneg _ (by decide)) (Int.lt_trans (Int.emod_lt_of_pos _ (by decide)) (by decide)), same_own s hp0 _⟩
    · refine ⟨_, rfl, _, _, rfl, rfl, .inr m48, _, rfl, _, _, rfl, rfl, .inr m69, _, _, rfl, rfl, _, _, rfl, rfl, .inl ⟨_, rfl, _, _, rfl, rfl, (by show (0 : Int) < 2147483647; decide), ?_⟩⟩
      refine ⟨_, rfl, _, rfl, _, _, rfl, rfl, .inl (b1 _), _, _, rfl, rfl, ⟨by decide, by decide⟩, _, rfl, _, _, rfl, rfl, .inl ⟨_, rfl, _, _, rfl, rfl, (by show (0 : Int) < 2147483629; decide), ?_⟩⟩
      refine ⟨_, rfl, .inl ⟨rfl, _, SqL.of hp'⟩, _, rfl, _, rfl, _, _, rfl, rfl, .inl (b2 _), _, _, rfl, rfl, ⟨by decide, by decide⟩, _, rfl, _, _, rfl, rfl, .inr m79, _, _, rfl, rfl, .inl ⟨_, rfl, _, _, rfl, rfl, (by show (0 : Int) < 2147483629; decide), p, _, _, rfl, rfl, hp', room, ?_⟩⟩
      exact ⟨ds ++ [_], rs, _, _, _, _, rfl, by rw [upd_ne npr]; exact hr', put _, hrl, by rw [List.length_append, List.length_singleton]; omega, grown _ (Int.emod_nonneg _ (by decide)) (Int.lt_trans (Int.emod_lt_of_pos _ (by decide)) (by decide)), same_own s hp0 _⟩
  · rintro σ H' ⟨ds, rs, kv, cv, mv, av, rfl, hr', hp', hrl, hdl, hb, s⟩
    exact ⟨_, rfl, k p H' ds hp0 s hp' (by omega) hb⟩
/-- the next draw, below many; the place goes on by one -/
def spTake (K : PySem.W.Frag) : Sp := fun vs H Q _ => ∃ (h d : Addr) (ds : List Int) (i : Nat) (m : Int), vs = [.ref h, .int m] ∧ H h = some (.lst [.ref d, .int i]) ∧ H d = some (.lst (ds.map V.int)) ∧ 0 < m ∧ m < 1000000 ∧
  ∀ r : Int, 0 ≤ r → r < m → Q (.int r) (upd H h (.lst [.ref d, .int ((i + 1 : Nat) : Int)]))
theorem ok_take {f : Addr} {fd : FuncData} (B : Blt mg) (F : Fun K "_law_take" "_law_take" s_law_take f fd) : FnOk P w K mg base CX0 1 f fd ["hand", "many"] (spTake K) := by
  have sc : FnScope ["hand", "many", "at", "draws"] ["hand", "many"] (defScope s_law_take) := ⟨rfl, rfl, rfl, by decide +kernel, rfl, by decide +kernel, by decide +kernel⟩
  refine F.ok sc (fun vs H Q E h => ?_) (fun cdv A outer s H vs Q E hr h => ?_)
  · obtain ⟨h, d, ds, i, m, rfl, _⟩ := h
    rfl
  obtain ⟨h, d, ds, i, m, rfl, hh, hd, m0, m1, k⟩ := h
  refine ⟨_, (pss_cons (ps_set (i := 2) sc.nd rfl (Or.inl rfl) (pe_ix ix_list (pv 0) pe_int (fun _ _ => rfl)))
    (pss_cons (ps_asg (pe_op op_add (pv 2) pe_int) (pg_sub (pv 0) pe_int set_list))
    (pss_cons (ps_set (i := 3) sc.nd rfl (Or.inl rfl) (pe_ix ix_list (pv 0) pe_int (fun _ _ => rfl)))
    (pss_cons (ps_if (pt_cmpR op_ge (pv 2) (pe_callB call_len_seq (by rfl) B.len (by decide +kernel) (pa_cons (pv 3) pa_nil)) (nomark _))
      (pss_one (ps_ret pe_int))
      pss_nil)
    (pss_one (ps_ret (pe_op op_mod (pe_op op_fdiv (pe_callTy call_int1 (by rfl) B.int (by decide +kernel) (pa_cons (pe_ix ix_list (pv 3) (pv 2) (fun _ _ => rfl)) pa_nil)) pe_int) (pv 1)))))))), ?_⟩
  have ndh : d ≠ h := by
    rintro rfl
    rw [hh] at hd
    cases ds with
    | nil => cases hd
    | cons z ds => cases hd
  refine ⟨_, rfl, h, _, _, _, rfl, rfl, SqL.of hh, at_of (j := 1) rfl rfl, ?_⟩
  refine ⟨_, rfl, _, _, rfl, rfl, _, rfl, h, _, _, 1, rfl, rfl, hh, by rfl, ?_⟩
  refine ⟨_, rfl, h, _, _, _, rfl, rfl, SqL.of upd_same, at_of (j := 0) rfl rfl, ?_⟩
  have hd2 : (upd H h (.lst ([V.ref d, V.int (i : Int)].set 1 (.int ((i : Int) + 1))))) d = some (.lst (ds.map V.int)) := by rw [upd_ne ndh]; exact hd
  refine ⟨_, rfl, _, rfl, d, _, rfl, .inl (SqL.of hd2), _, _, rfl, rfl, _, rfl, ?_⟩
  have q : ∀ r : Int, 0 ≤ r → r < m → Q (.int r) (upd H h (.lst ([V.ref d, V.int (i : Int)].set 1 (.int ((i : Int) + 1))))) := k
  refine ite2 (fun _ => q 0 (by decide) m0) (fun c => ?_)
  have c' := dec_f c
  rw [List.length_map] at c'
  obtain ⟨z, _, _, hz⟩ := at_int (ns := ds) (i := (i : Int)) (by omega) (by omega)
  exact ⟨_, rfl, _, rfl, d, _, _, _, rfl, rfl, SqL.of hd2, hz, .inl ⟨_, rfl, _, _, rfl, rfl, ⟨by decide, by decide⟩, _, rfl, _, _, rfl, rfl, m0, q _ (Int.emod_nonneg _ (by omega)) (Int.emod_lt_of_pos _ m0)⟩⟩
end
/-! ### what a view is -/
def isNum (d : PyData) (lo hi : Int) : Bool := match d with
  | .int i => decide (lo ≤ i) && decide (i ≤ hi)
  | _ => false
def isN : PyData → Bool
  | .none => true
  | _ => false
def okB (D : Nat) : Nat → Int → Int → Int → PyData → Bool
  | 0, own, _, _, d => match d with
    | .tuple [x] => isNum x 0 (own - 1)
    | _ => false
  | T + 1, own, other, b, d => match d with
    | .tuple [x, .tuple ps] => isNum x 0 (own - 1) && decide (ps.length = D) && (List.range D).all fun (j : Nat) => if 1 + (j : Int) = b then isN (ps.getD j .none) else okB D T other own (1 + (j : Int)) (ps.getD j .none)
    | _ => false
/-- the part at colour 1 + j is right -/
def okP (D T : Nat) (own other b : Int) (ps : List PyData) (j : Nat) : Bool := if 1 + (j : Int) = b then isN (ps.getD j .none) else okB D T other own (1 + (j : Int)) (ps.getD j .none)
theorem okB_zero {D : Nat} {own other b : Int} {x : PyData} : okB D 0 own other b (.tuple [x]) = isNum x 0 (own - 1) := by simp only [okB]
theorem okB_succ {D T : Nat} {own other b : Int} {x : PyData} {ps : List PyData} : okB D (T + 1) own other b (.tuple [x, .tuple ps]) = (isNum x 0 (own - 1) && decide (ps.length = D) && (List.range D).all (okP D T own other b ps)) := by
  simp only [okB]
  rfl
def isInt2 : PyData → Bool
  | .int _ => true
  | .bool _ => true
  | _ => false
def isBool : PyData → Bool
  | .bool _ => true
  | _ => false
def isTup : PyData → Bool
  | .tuple _ => true
  | _ => false
theorem kit_int (d : PyData) : kitB (tyD d) "int" = some (isInt2 d) := by cases d <;> (simp only [tyD, isInt2]; decide +kernel)
theorem kit_bool (d : PyData) : kitB (tyD d) "bool" = some (isBool d) := by cases d <;> (simp only [tyD, isBool]; decide +kernel)
theorem kit_tup (d : PyData) : kitB (tyD d) "tuple" = some (isTup d) := by cases d <;> (simp only [tyD, isTup]; decide +kernel)
section
variable {P : Program} {w : World} {K : PySem.W.Frag} {mg : Str → Option Value} {base : Heap}
def spNumber (K : PySem.W.Frag) : Sp := fun vs H Q _ => ∃ (M : Addr → Prop) (x : V) (d : PyData) (lo hi : Int), vs = [x, .int lo, .int hi] ∧ Dq M K H x d ∧ Q (.bl (isNum d lo hi)) H
theorem ok_number {f : Addr} {fd : FuncData} (B : Blt mg) (F : Fun K "is_number" "is_number" sis_number f fd) : FnOk P w K mg base CX0 1 f fd ["value", "low", "high"] (spNumber K) := by
  have sc : FnScope ["value", "low", "high"] ["value", "low", "high"] (defScope sis_number) := ⟨rfl, rfl, rfl, by decide +kernel, rfl, by decide +kernel, by decide +kernel⟩
  refine F.ok sc (fun vs H Q E h => ?_) (fun cdv A outer s H vs Q E hr h => ?_)
  · obtain ⟨_, _, _, _, _, rfl, _⟩ := h
    rfl
  obtain ⟨M, x, d, lo, hi, rfl, hd, k⟩ := h
  refine ⟨_, (pss_cons (ps_if (PW.pt (pw_or (pt_not (pt_val (pe_callB call_isi (by rfl) B.isinstance (by decide +kernel) (pa_cons (pv 0) (pa_cons (pe_bltn (v := V.ty "int") (u := Value.type "int") (by rfl) B.int (by decide +kernel) rfl) pa_nil))))) (pw_or1 (pt_val (pe_callB call_isi (by rfl) B.isinstance (by decide +kernel) (pa_cons (pv 0) (pa_cons (pe_bltn (v := V.ty "bool") (u := Value.type "bool") (by rfl) B.bool (by decide +kernel) rfl) pa_nil)))))))
      (pss_one (ps_ret pe_bl))
      pss_nil)
    (pss_one (ps_ret (pe_chain op_le op_le (pv 1) (pv 0) (pv 2))))), ?_⟩
  refine ⟨_, rfl, x, _, _, _, isInt2 d, rfl, ClsV.ty _, hd.ty, kit_ty (kit_int d), _, rfl, ?_⟩
  have no : isNum d lo hi = false → Q (.bl false) H := fun e => by rw [e] at k; exact k
  cases hi2 : isInt2 d with
  | false =>
    refine iteT ?_
    refine iteT ?_
    exact no (by cases d <;> first | rfl | cases hi2)
  | true =>
    refine iteF ?_
    refine ⟨_, rfl, x, _, _, _, isBool d, rfl, ClsV.ty _, hd.ty, kit_ty (kit_bool d), _, rfl, ?_⟩
    cases hb : isBool d with
    | true =>
      refine iteT ?_
      exact no (by cases d <;> first | rfl | cases hb)
    | false =>
      refine iteF ?_
      cases d with
      | int i =>
        cases hd with
        | data hd =>
          cases hd
          refine ⟨_, rfl, _, rfl, _, _, rfl, rfl, _, rfl, ?_⟩
          have e : isNum (.int i) lo hi = (decide (lo ≤ i) && decide (i ≤ hi)) := rfl
          rw [e] at k
          cases h1 : decide (lo ≤ i) with
          | true =>
            rw [h1] at k
            refine iteT ?_
            exact ⟨_, rfl, _, _, rfl, rfl, k⟩
          | false =>
            rw [h1] at k
            exact iteF k
      | _ => first | (simp [isInt2] at hi2; done) | (simp [isBool] at hb; done)
/-- how a tuple lies -/
theorem dq_tup {M : Addr → Prop} {H : Hp} {x : V} {ds : List PyData} (h : Dq M K H x (.tuple ds)) : ∃ a xs, x = .ref a ∧ SqT K H a xs ∧ DvAll M K H xs ds := by
  cases h with
  | data h =>
    cases h with
    | tup h1 h2 => exact ⟨_, _, rfl, h1, h2⟩
theorem dv_tup {M : Addr → Prop} {H : Hp} {x : V} {ds : List PyData} (h : Dv M K H x (.tuple ds)) : ∃ a xs, x = .ref a ∧ SqT K H a xs ∧ DvAll M K H xs ds := dq_tup (.data h)
/-- a view: both looks give okB; n: how many calls may stand in one another -/
def spLook (K : PySem.W.Frag) (n : Nat) : Sp := fun vs H Q _ => ∃ (M : Addr → Prop) (x : V) (d : PyData) (D T : Nat) (dd own other t b : Int), vs = [x, .int dd, .int own, .int other, .int t, .int b] ∧ dd = D ∧ t = T ∧ D ≤ 4 ∧ T < n ∧ Dq M K H x d ∧ Q (.bl (okB D T own other b d)) H
theorem ok_isb (n : Nat) {f : Addr} {fd : FuncData} (B : Blt mg) (gis_number : Has P w K mg base CX0 1 "is_number" ["value", "low", "high"] (spNumber K)) (g_is_branch : Has P w K mg base CX0 (n + 1) "_is_branch" ["value", "D", "own", "other", "reach", "colour"] (spLook K n))
    (F : Fun K "_is_branch" "_is_branch" s_is_branch f fd) : FnOk P w K mg base CX0 (n + 2) f fd ["value", "D", "own", "other", "reach", "colour"] (spLook K (n + 1)) := by
  have sc : FnScope ["value", "D", "own", "other", "reach", "colour", "length", "parts", "behind", "part", "right"] ["value", "D", "own", "other", "reach", "colour"] (defScope s_is_branch) := ⟨rfl, rfl, rfl, by decide +kernel, rfl, by decide +kernel, by decide +kernel⟩
  refine F.ok sc (fun vs H Q E h => ?_) (fun cdv A outer s H vs Q E hr h => ?_)
  · obtain ⟨_, _, _, _, _, _, _, _, _, _, rfl, _⟩ := h
    rfl
  obtain ⟨M, x, d, D, T, dd, own, other, t, b, rfl, rfl, rfl, hD, hT, hd, k⟩ := h
  refine ⟨_, (pss_cons (ps_set (i := 6) sc.nd rfl (Or.inl rfl) (pe_ifExp (pt_cmpR op_eqi (pv 4) pe_int (nomark _)) pe_int pe_int))
    (pss_cons (ps_if (PW.pt (pw_or (pt_not (pt_val (pe_callB call_isi (by rfl) B.isinstance (by decide +kernel) (pa_cons (pv 0) (pa_cons (pe_bltn (v := V.ty "tuple") (u := Value.type "tuple") (by rfl) B.tuple (by decide +kernel) rfl) pa_nil))))) (pw_or1 (pt_cmpR op_nei (pe_callB call_len_seq (by rfl) B.len (by decide +kernel) (pa_cons (pv 0) pa_nil)) (pv 6) (nomark _)))))
      (pss_one (ps_ret pe_bl))
      pss_nil)
    (pss_cons (ps_if (pt_not (pt_val (pc gis_number hr (pa_cons (pe_ix ix_tup (pv 0) pe_int (fun _ _ => rfl)) (pa_cons pe_int (pa_cons (pe_op op_sub (pv 2) pe_int) pa_nil))))))
      (pss_one (ps_ret pe_bl))
      pss_nil)
    (pss_cons (ps_if (pt_cmpR op_eqi (pv 4) pe_int (nomark _))
      (pss_one (ps_ret pe_bl))
      pss_nil)
    (pss_cons (ps_set (i := 7) sc.nd rfl (Or.inl rfl) (pe_ix ix_tup (pv 0) pe_int (fun _ _ => rfl)))
    (pss_cons (ps_if (PW.pt (pw_or (pt_not (pt_val (pe_callB call_isi (by rfl) B.isinstance (by decide +kernel) (pa_cons (pv 7) (pa_cons (pe_bltn (v := V.ty "tuple") (u := Value.type "tuple") (by rfl) B.tuple (by decide +kernel) rfl) pa_nil))))) (pw_or1 (pt_cmpR op_nei (pe_callB call_len_seq (by rfl) B.len (by decide +kernel) (pa_cons (pv 7) pa_nil)) (pv 1) (nomark _)))))
      (pss_one (ps_ret pe_bl))
      pss_nil)
    (pss_cons (ps_for PassesOwn.never rfl (pi_range2 (by rfl) B.range (pa_cons pe_int (pa_cons (pe_op op_add (pv 1) pe_int) pa_nil))) (pg_name (i := 8) sc.nd rfl (Or.inl rfl))
      (pss_cons (ps_set (i := 9) sc.nd rfl (Or.inl rfl) (pe_ix ix_tup (pv 7) (pe_op op_sub (pv 8) pe_int) (fun _ _ => rfl)))
      (pss_cons (ps_if (pt_cmpR op_eqi (pv 8) (pv 5) (nomark _))
        (pss_one (ps_set (i := 10) sc.nd rfl (Or.inl rfl) (pe_cmpR op_isN (pv 9) pe_non (nomark _))))
        (pss_one (ps_set (i := 10) sc.nd rfl (Or.inl rfl) (pc g_is_branch hr (pa_cons (pv 9) (pa_cons (pv 1) (pa_cons (pv 3) (pa_cons (pv 2) (pa_cons (pe_op op_sub (pv 4) pe_int) (pa_cons (pv 8) pa_nil))))))))))
      (pss_one (ps_if (pt_not (pt_val (pv 10)))
        (pss_one (ps_ret pe_bl))
        pss_nil)))))
    (pss_one (ps_ret pe_bl))))))))), ?_⟩
  have no : okB D T own other b d = false → Q (.bl false) H := fun e => by rw [e] at k; exact k
  refine ⟨_, rfl, _, _, rfl, rfl, _, rfl, ?_⟩
  cases T with
  | zero =>
    refine iteT ?_
    refine ⟨_, rfl, x, _, _, _, isTup d, rfl, ClsV.ty _, hd.ty, kit_ty (kit_tup d), _, rfl, ?_⟩
    cases ht : isTup d with
    | false =>
      refine iteT ?_
      refine iteT ?_
      exact no (by cases d <;> first | (simp only [okB]; done) | cases ht)
    | true =>
      refine iteF ?_
      cases d with
      | tuple ds =>
        obtain ⟨a, xs, rfl, ha, hx⟩ := dq_tup hd
        refine ⟨_, rfl, a, _, rfl, .inr ha, _, rfl, _, _, rfl, rfl, _, rfl, ?_⟩
        by_cases hl : ds.length = 1
        · obtain ⟨y, rfl⟩ := List.length_eq_one_iff.mp hl
          cases hx with
          | cons hy hn =>
            cases hn
            refine iteNS (by rfl) ?_
            refine ⟨_, rfl, a, _, _, _, rfl, rfl, ha, at_of (j := 0) rfl rfl, _, rfl, _, _, rfl, rfl, M, _, y, 0, own - 1, rfl, .data hy, _, rfl, ?_⟩
            rw [okB_zero] at k no
            cases hn : isNum y 0 (own - 1) with
            | false =>
              refine iteT ?_
              exact no hn
            | true =>
              refine iteF ?_
              refine ⟨_, rfl, _, _, rfl, rfl, _, rfl, ?_⟩
              refine iteT ?_
              rw [hn] at k
              exact k
        · have e : ¬ ((xs.length : Nat) : Int) = 1 := by rw [hx.len]; omega
          rw [decide_eq_false e]
          refine iteT ?_
          exact no (by
            match ds, hl with
            | [], _ => simp only [okB]
            | [_], hl => exact absurd rfl hl
            | _ :: _ :: _, _ => simp only [okB])
      | _ => cases ht
  | succ T =>
    have nz : ¬ ((T + 1 : Nat) : Int) = 0 := by omega
    rw [decide_eq_false nz]
    refine iteF ?_
    refine ⟨_, rfl, x, _, _, _, isTup d, rfl, ClsV.ty _, hd.ty, kit_ty (kit_tup d), _, rfl, ?_⟩
    cases ht : isTup d with
    | false =>
      refine iteT ?_
      refine iteT ?_
      exact no (by cases d <;> first | (simp only [okB]; done) | cases ht)
    | true =>
      refine iteF ?_
      cases d with
      | tuple ds =>
        obtain ⟨a, xs, rfl, ha, hx⟩ := dq_tup hd
        refine ⟨_, rfl, a, _, rfl, .inr ha, _, rfl, _, _, rfl, rfl, _, rfl, ?_⟩
        by_cases hl : ds.length = 2
        · obtain ⟨y, z, rfl⟩ : ∃ y z, ds = [y, z] := by
            match ds, hl with
            | [], h => exact absurd h (by simp)
            | [_], h => exact absurd h (by simp)
            | [y, z], _ => exact ⟨y, z, rfl⟩
            | _ :: _ :: _ :: _, h => exact absurd h (by simp)
          cases hx with
          | cons hy hn =>
            cases hn with
            | cons hz hn =>
            cases hn
            refine iteNS (by rfl) ?_
            refine ⟨_, rfl, a, _, _, _, rfl, rfl, ha, at_of (j := 0) rfl rfl, _, rfl, _, _, rfl, rfl, M, _, y, 0, own - 1, rfl, .data hy, _, rfl, ?_⟩
            cases hn : isNum y 0 (own - 1) with
            | false =>
              refine iteT ?_
              exact no (by
                cases z with
                | tuple ps => rw [okB_succ, hn]; rfl
                | _ => simp only [okB])
            | true =>
              refine iteF ?_
              refine ⟨_, rfl, _, _, rfl, rfl, _, rfl, ?_⟩
              rw [decide_eq_false nz]
              refine iteF ?_
              refine ⟨_, rfl, a, _, _, _, rfl, rfl, ha, at_of (j := 1) rfl rfl, ?_⟩
              refine ⟨_, rfl, _, _, _, _, isTup z, rfl, ClsV.ty _, hz.ty, kit_ty (kit_tup z), _, rfl, ?_⟩
              cases hzt : isTup z with
              | false =>
                refine iteT ?_
                refine iteT ?_
                exact no (by cases z <;> first | (simp only [okB]; done) | cases hzt)
              | true =>
                refine iteF ?_
                cases z with
                | tuple ps =>
                  obtain ⟨p, ys, rfl, hp, hys⟩ := dv_tup hz
                  rw [okB_succ, hn] at k no
                  refine ⟨_, rfl, p, _, rfl, .inr hp, _, rfl, _, _, rfl, rfl, _, rfl, ?_⟩
                  by_cases hpl : ps.length = D
                  · have e : ((ys.length : Nat) : Int) = (D : Int) := by rw [hys.len, hpl]
                    rw [decide_eq_true e]
                    refine iteF ?_
                    rw [decide_eq_true hpl] at k no
                    refine ⟨_, rfl, _, _, rfl, rfl, 1, (D : Int) + 1, rfl, ⟨by decide, by decide, by omega, by omega⟩, for_range (lo := 1) (n := ((D : Int) + 1 - 1).toNat) (fun i σ H' => H' = H ∧ ∃ (bv pv rv : Option V), σ = [some (.ref a), some (.int D), some (.int own), some (.int other), some (.int ((T + 1 : Nat) : Int)), some (.int b), some (.int 2), some (.ref p), bv, pv, rv] ∧ ∀ j, j < i → okP D T own other b ps j = true)
                      ⟨rfl, none, none, none, rfl, fun j hj => absurd hj (Nat.not_lt_zero j)⟩ ?_ ?_⟩
                    · rintro i σ H' hi ⟨rfl, bv, pv, rv, rfl, hok⟩
                      have iD : i < D := by omega
                      have il : i < ps.length := by omega
                      obtain ⟨y2, hy2, hyd⟩ := hys.at (show ps[i]? = some (ps[i]) by simp [il])
                      have getD : ps.getD i .none = ps[i] := by simp [List.getD, il]
                      refine ⟨_, rfl, _, rfl, _, _, rfl, rfl, p, _, _, y2, rfl, rfl, hp, at_of (j := i) (by omega) hy2, ?_⟩
                      refine ⟨_, rfl, _, rfl, _, _, rfl, rfl, _, rfl, ?_⟩
                      -- behind the store of right
                      have go : ∀ r : Bool, r = okP D T own other b ps i → (r = false → Q (.bl false) H') := fun r hr e => no (by
                        rw [Bool.and_eq_false_iff]
                        refine .inr ?_
                        rw [List.all_eq_false]
                        exact ⟨i, List.mem_range.mpr iD, by rw [← hr, e]; decide⟩)
                      refine ite2 (fun c => ?_) (fun c => ?_)
                      · have hc := dec_t c
                        refine ⟨_, rfl, rfl, ?_⟩
                        have e : decide (y2 = .non) = okP D T own other b ps i := by
                          unfold okP
                          rw [if_pos (by omega), getD]
                          generalize ps[i] = d2 at hyd
                          cases hyd <;> first | rfl | (simp only [isN]; exact decide_eq_false (by intro z; cases z))
                        refine ⟨_, rfl, _, rfl, ?_⟩
                        cases hq : decide (y2 = .non) with
                        | true =>
                          refine iteF ?_
                          refine ⟨rfl, _, _, _, rfl, fun j hj => ?_⟩
                          by_cases ej : j = i
                          · rw [ej, ← e, hq]
                          · exact hok j (by omega)
                        | false =>
                          refine iteT ?_
                          exact go _ e hq
                      · have hc := dec_f c
                        refine ⟨_, rfl, _, rfl, _, rfl, _, rfl, _, rfl, _, _, rfl, rfl, _, rfl, M, y2, ps[i], D, T, _, _, _, _, _, rfl, rfl, by omega, hD, by omega, .data hyd, ?_⟩
                        have e : okB D T other own (1 + (i : Int)) ps[i] = okP D T own other b ps i := by
                          unfold okP
                          rw [if_neg (by omega), getD]
                        refine ⟨_, rfl, _, rfl, ?_⟩
                        cases hq : okB D T other own (1 + (i : Int)) ps[i] with
                        | true =>
                          refine iteF ?_
                          refine ⟨rfl, _, _, _, rfl, fun j hj => ?_⟩
                          by_cases ej : j = i
                          · rw [ej, ← e, hq]
                          · exact hok j (by omega)
                        | false =>
                          refine iteT ?_
                          exact go _ e hq
                    · rintro σ H' ⟨rfl, bv, pv, rv, rfl, hok⟩
                      have all : ((List.range D).all (okP D T own other b ps)) = true := List.all_eq_true.mpr fun j hj => hok j (by have := List.mem_range.mp hj; omega)
                      rw [all] at k
                      exact k
                  · have e : ¬ ((ys.length : Nat) : Int) = (D : Int) := by rw [hys.len]; omega
                    rw [decide_eq_false e]
                    refine iteT ?_
                    exact no (by rw [decide_eq_false hpl]; rfl)
                | _ => cases hzt
        · have e : ¬ ((xs.length : Nat) : Int) = 2 := by rw [hx.len]; omega
          rw [decide_eq_false e]
          refine iteT ?_
          exact no (by
            match ds, hl with
            | [], _ => simp only [okB]
            | [_], _ => simp only [okB]
            | [_, _], hl => exact absurd rfl hl
            | _ :: _ :: _ :: _, _ => simp only [okB])
      | _ => cases ht
end
section
variable {P : Program} {w : World} {K : PySem.W.Frag} {mg : Str → Option Value} {base : Heap}
theorem has_isb (B : Blt mg) (d : Def K mg "_is_branch" s_is_branch ["value", "D", "own", "other", "reach", "colour"]) (g : Has P w K mg base CX0 1 "is_number" ["value", "low", "high"] (spNumber K)) :
    ∀ n : Nat, Has P w K mg base CX0 (n + 1) "_is_branch" ["value", "D", "own", "other", "reach", "colour"] (spLook K n)
  | 0 => d.has fun f fd F => by
    have no : ∀ vs H Q E, ¬ spLook K 0 vs H Q E := fun vs H Q E h => by
      obtain ⟨_, _, _, _, _, _, _, _, _, _, _, _, _, _, h, _⟩ := h
      omega
    exact ⟨fun vs H Q E h => absurd h (no vs H Q E), fun A outer s H args us vs Q E _ _ _ _ h => absurd h (no vs H Q E)⟩
  | n + 1 => d.has fun f fd F => ok_isb n B g (has_isb B d g n) F
def isIntD : PyData → Bool
  | .int _ => true
  | _ => false
def spInteger (K : PySem.W.Frag) : Sp := fun vs H Q _ => ∃ (M : Addr → Prop) (x : V) (d : PyData), vs = [x] ∧ Dq M K H x d ∧ Q (.bl (isIntD d)) H
theorem ok_integer {f : Addr} {fd : FuncData} (B : Blt mg) (F : Fun K "_law_integer" "_law_integer" s_law_integer f fd) : FnOk P w K mg base CX0 1 f fd ["value"] (spInteger K) := by
  have sc : FnScope ["value"] ["value"] (defScope s_law_integer) := ⟨rfl, rfl, rfl, by decide +kernel, rfl, by decide +kernel, by decide +kernel⟩
  refine F.ok sc (fun vs H Q E h => ?_) (fun cdv A outer s H vs Q E hr h => ?_)
  · obtain ⟨_, _, _, rfl, _⟩ := h
    rfl
  obtain ⟨M, x, d, rfl, hd, k⟩ := h
  refine ⟨_, (pss_one (ps_ret (pe_and (pe_callB call_isi (by rfl) B.isinstance (by decide +kernel) (pa_cons (pv 0) (pa_cons (pe_bltn (v := V.ty "int") (u := Value.type "int") (by rfl) B.int (by decide +kernel) rfl) pa_nil))) (pe_one (pe_not (pe_callB call_isi (by rfl) B.isinstance (by decide +kernel) (pa_cons (pv 0) (pa_cons (pe_bltn (v := V.ty "bool") (u := Value.type "bool") (by rfl) B.bool (by decide +kernel) rfl) pa_nil)))))))), ?_⟩
  refine ⟨_, rfl, x, _, _, _, isInt2 d, rfl, ClsV.ty _, hd.ty, kit_ty (kit_int d), ?_⟩
  refine ⟨_, rfl, ?_⟩
  cases hi2 : isInt2 d with
  | false =>
    refine iteF ?_
    have e : isIntD d = false := by cases d <;> first | rfl | cases hi2
    rw [e] at k
    exact k
  | true =>
    refine iteT ?_
    refine ⟨_, rfl, x, _, _, _, isBool d, rfl, ClsV.ty _, hd.ty, kit_ty (kit_bool d), _, rfl, ?_⟩
    have e : isIntD d = !isBool d := by cases d <;> first | rfl | (simp [isInt2] at hi2; done)
    rw [e] at k
    exact k
theorem ok_right (n : Nat) {f : Addr} {fd : FuncData} (B : Blt mg) (g_law_integer : Has P w K mg base CX0 1 "_law_integer" ["value"] (spInteger K)) (g_law_right : Has P w K mg base CX0 (n + 1) "_law_right" ["value", "colours", "own", "other", "reach", "back"] (spLook K n))
    (F : Fun K "_law_right" "_law_right" s_law_right f fd) : FnOk P w K mg base CX0 (n + 2) f fd ["value", "colours", "own", "other", "reach", "back"] (spLook K (n + 1)) := by
  have sc : FnScope ["value", "colours", "own", "other", "reach", "back", "colour", "part"] ["value", "colours", "own", "other", "reach", "back"] (defScope s_law_right) := ⟨rfl, rfl, rfl, by decide +kernel, rfl, by decide +kernel, by decide +kernel⟩
  refine F.ok sc (fun vs H Q E h => ?_) (fun cdv A outer s H vs Q E hr h => ?_)
  · obtain ⟨_, _, _, _, _, _, _, _, _, _, rfl, _⟩ := h
    rfl
  obtain ⟨M, x, d, D, T, dd, own, other, t, b, rfl, rfl, rfl, hD, hT, hd, k⟩ := h
  refine ⟨_, (pss_cons (ps_if (PW.pt (pw_or (pt_not (pt_val (pe_callB call_isi (by rfl) B.isinstance (by decide +kernel) (pa_cons (pv 0) (pa_cons (pe_bltn (v := V.ty "tuple") (u := Value.type "tuple") (by rfl) B.tuple (by decide +kernel) rfl) pa_nil))))) (pw_or1 (pt_cmpR op_nei (pe_callB call_len_seq (by rfl) B.len (by decide +kernel) (pa_cons (pv 0) pa_nil)) (pe_op op_add pe_int (pe_callTy call_int1 (by rfl) B.int (by decide +kernel) (pa_cons (pe_cmpR op_gt (pv 4) pe_int (nomark _)) pa_nil))) (nomark _)))))
      (pss_one (ps_ret pe_bl))
      pss_nil)
    (pss_cons (ps_if (PW.pt (pw_or (pt_not (pt_val (pc g_law_integer hr (pa_cons (pe_ix ix_tup (pv 0) pe_int (fun _ _ => rfl)) pa_nil)))) (pw_or (pt_cmpR op_lt (pe_ix ix_tup (pv 0) pe_int (fun _ _ => rfl)) pe_int (nomark _)) (pw_or1 (pt_cmpR op_ge (pe_ix ix_tup (pv 0) pe_int (fun _ _ => rfl)) (pv 2) (nomark _))))))
      (pss_one (ps_ret pe_bl))
      pss_nil)
    (pss_cons (ps_if (pt_cmpR op_eqi (pv 4) pe_int (nomark _))
      (pss_one (ps_ret pe_bl))
      pss_nil)
    (pss_cons (ps_if (PW.pt (pw_or (pt_not (pt_val (pe_callB call_isi (by rfl) B.isinstance (by decide +kernel) (pa_cons (pe_ix ix_tup (pv 0) pe_int (fun _ _ => rfl)) (pa_cons (pe_bltn (v := V.ty "tuple") (u := Value.type "tuple") (by rfl) B.tuple (by decide +kernel) rfl) pa_nil))))) (pw_or1 (pt_cmpR op_nei (pe_callB call_len_seq (by rfl) B.len (by decide +kernel) (pa_cons (pe_ix ix_tup (pv 0) pe_int (fun _ _ => rfl)) pa_nil)) (pv 1) (nomark _)))))
      (pss_one (ps_ret pe_bl))
      pss_nil)
    (pss_cons (ps_for PassesOwn.never rfl (pi_range2 (by rfl) B.range (pa_cons pe_int (pa_cons (pe_op op_add (pv 1) pe_int) pa_nil))) (pg_name (i := 6) sc.nd rfl (Or.inl rfl))
      (pss_cons (ps_set (i := 7) sc.nd rfl (Or.inl rfl) (pe_ix ix_tup (pe_ix ix_tup (pv 0) pe_int (fun _ _ => rfl)) (pe_op op_sub (pv 6) pe_int) (fun _ _ => rfl)))
      (pss_one (ps_if (pt_cmpR op_eqi (pv 6) (pv 5) (nomark _))
        (pss_one (ps_if (pt_cmpR op_notN (pv 7) pe_non (nomark _))
          (pss_one (ps_ret pe_bl))
          pss_nil))
        (pss_one (ps_if (pt_not (pt_val (pc g_law_right hr (pa_cons (pv 7) (pa_cons (pv 1) (pa_cons (pv 3) (pa_cons (pv 2) (pa_cons (pe_op op_sub (pv 4) pe_int) (pa_cons (pv 6) pa_nil)))))))))
          (pss_one (ps_ret pe_bl))
          pss_nil))))))
    (pss_one (ps_ret pe_bl))))))), ?_⟩
  have no : okB D T own other b d = false → Q (.bl false) H := fun e => by rw [e] at k; exact k
  refine ⟨_, rfl, x, _, _, _, isTup d, rfl, ClsV.ty _, hd.ty, kit_ty (kit_tup d), _, rfl, ?_⟩
  cases ht : isTup d with
  | false =>
    refine iteT ?_
    refine iteT ?_
    exact no (by cases T <;> cases d <;> first | (simp only [okB]; done) | cases ht)
  | true =>
    refine iteF ?_
    cases d with
    | tuple ds =>
      obtain ⟨a, xs, rfl, ha, hx⟩ := dq_tup hd
      refine ⟨_, rfl, a, _, rfl, .inr ha, _, rfl, _, _, rfl, rfl, .inr ⟨_, rfl, _, _, rfl, rfl, _, _, rfl, rfl, _, rfl, ?_⟩⟩
      rw [hx.len]
      -- the first place
      have first : ∀ {y : PyData} {v : V} {vs : List V} {es : List PyData}, ds = y :: es → xs = v :: vs → Dv M K H v y → (isNum y 0 (own - 1) = false → okB D T own other b (.tuple ds) = false) := by
        intro y v vs es e1 e2 hy hn
        rw [e1]
        cases T with
        | zero =>
          cases es with
          | nil => rw [okB_zero]; exact hn
          | cons _ _ => simp only [okB]
        | succ T =>
          match es with
          | [] => simp only [okB]
          | [.tuple ps] => rw [okB_succ, hn]; rfl
          | [.none] => simp only [okB]
          | [.bool _] => simp only [okB]
          | [.int _] => simp only [okB]
          | [.str _] => simp only [okB]
          | [.list _] => simp only [okB]
          | [.dict _] => simp only [okB]
          | _ :: _ :: _ => simp only [okB]
      by_cases hl : ((ds.length : Nat) : Int) = 1 + (if decide ((0 : Int) < (T : Int)) = true then 1 else 0)
      · rw [decide_eq_true hl]
        refine iteF ?_
        obtain ⟨y, es, rfl⟩ : ∃ y es, ds = y :: es := by
          cases ds with
          | nil =>
            exfalso
            simp only [List.length_nil] at hl
            split at hl <;> omega
          | cons y es => exact ⟨y, es, rfl⟩
        cases hx with
        | @cons v vs _ _ hy hes =>
          have bad := first rfl rfl hy
          refine ⟨_, rfl, a, _, _, _, rfl, rfl, ha, at_of (j := 0) rfl rfl, M, v, y, rfl, .data hy, _, rfl, ?_⟩
          cases hi1 : isIntD y with
          | false =>
            refine iteT ?_
            refine iteT ?_
            exact no (bad (by cases y <;> first | rfl | cases hi1))
          | true =>
            refine iteF ?_
            cases y with
            | int i =>
              cases hy
              have en : isNum (.int i) 0 (own - 1) = (decide (0 ≤ i) && decide (i ≤ own - 1)) := rfl
              refine ⟨_, rfl, a, _, _, _, rfl, rfl, ha, at_of (j := 0) rfl rfl, _, _, rfl, rfl, _, rfl, ?_⟩
              refine ite2 (fun c => ?_) (fun c => ?_)
              · refine iteT ?_
                exact no (bad (by rw [en, decide_eq_false (by have := dec_t c; omega)]; rfl))
              · refine ⟨_, rfl, a, _, _, _, rfl, rfl, ha, at_of (j := 0) rfl rfl, _, rfl, _, _, rfl, rfl, _, rfl, ?_⟩
                refine ite2 (fun c2 => ?_) (fun c2 => ?_)
                · exact no (bad (by rw [en, decide_eq_false (p := i ≤ own - 1) (by have := dec_t c2; omega), Bool.and_false]))
                · have good : isNum (.int i) 0 (own - 1) = true := by
                    rw [en, decide_eq_true (p := 0 ≤ i) (by have := dec_f c; omega), decide_eq_true (p := i ≤ own - 1) (by have := dec_f c2; omega)]
                    rfl
                  refine ⟨_, rfl, _, _, rfl, rfl, _, rfl, ?_⟩
                  cases T with
                  | zero =>
                    refine iteT ?_
                    have el : es = [] := by
                      cases es with
                      | nil => rfl
                      | cons _ _ =>
                        exfalso
                        simp only [List.length_cons] at hl
                        split at hl <;> rename_i q <;> first | omega | (have := of_decide_eq_true q; omega)
                    subst el
                    rw [okB_zero, good] at k
                    exact k
                  | succ T =>
                    have nz : ¬ ((T + 1 : Nat) : Int) = 0 := by omega
                    rw [decide_eq_false nz]
                    refine iteF ?_
                    obtain ⟨z, rfl⟩ : ∃ z, es = [z] := by
                      rw [if_pos (decide_eq_true (show (0 : Int) < ((T + 1 : Nat) : Int) by omega))] at hl
                      match es, hl with
                      | [], h => exact absurd h (by simp)
                      | [z], _ => exact ⟨z, rfl⟩
                      | _ :: _ :: _, h => exact absurd h (by simp only [List.length_cons]; omega)
                    cases hes with
                    | @cons v2 _ _ _ hz hn =>
                      cases hn
                      refine ⟨_, rfl, a, _, _, _, rfl, rfl, ha, at_of (j := 1) rfl rfl, _, _, _, _, isTup z, rfl, ClsV.ty _, hz.ty, kit_ty (kit_tup z), _, rfl, ?_⟩
                      cases hzt : isTup z with
                      | false =>
                        refine iteT ?_
                        refine iteT ?_
                        exact no (by cases z <;> first | (simp only [okB]; done) | cases hzt)
                      | true =>
                        refine iteF ?_
                        cases z with
                        | tuple ps =>
                          obtain ⟨p, ys, rfl, hp, hys⟩ := dv_tup hz
                          rw [okB_succ, good] at k no
                          refine ⟨_, rfl, a, _, _, _, rfl, rfl, ha, at_of (j := 1) rfl rfl, p, _, rfl, .inr hp, _, rfl, _, _, rfl, rfl, _, rfl, ?_⟩
                          by_cases hpl : ps.length = D
                          · have e : ((ys.length : Nat) : Int) = (D : Int) := by rw [hys.len, hpl]
                            rw [decide_eq_true e]
                            refine iteF ?_
                            rw [decide_eq_true hpl] at k no
                            refine ⟨_, rfl, _, _, rfl, rfl, 1, (D : Int) + 1, rfl, ⟨by decide, by decide, by omega, by omega⟩, for_range (lo := 1) (n := ((D : Int) + 1 - 1).toNat) (fun i σ H' => H' = H ∧ ∃ (bv pv : Option V), σ = [some (.ref a), some (.int D), some (.int own), some (.int other), some (.int ((T + 1 : Nat) : Int)), some (.int b), bv, pv] ∧ ∀ j, j < i → okP D T own other b ps j = true)
                              ⟨rfl, none, none, rfl, fun j hj => absurd hj (Nat.not_lt_zero j)⟩ ?_ ?_⟩
                            · rintro i σ H' hi ⟨rfl, bv, pv, rfl, hok⟩
                              have iD : i < D := by omega
                              have il : i < ps.length := by omega
                              obtain ⟨y2, hy2, hyd⟩ := hys.at (show ps[i]? = some (ps[i]) by simp [il])
                              have getD : ps.getD i .none = ps[i] := by simp [List.getD, il]
                              refine ⟨_, rfl, a, _, _, _, rfl, rfl, ha, at_of (j := 1) rfl rfl, _, rfl, _, _, rfl, rfl, p, _, _, y2, rfl, rfl, hp, at_of (j := i) (by omega) hy2, ?_⟩
                              refine ⟨_, rfl, _, rfl, _, _, rfl, rfl, _, rfl, ?_⟩
                              have go : ∀ r : Bool, r = okP D T own other b ps i → (r = false → Q (.bl false) H') := fun r hr e => no (by
                                rw [Bool.and_eq_false_iff]
                                refine .inr ?_
                                rw [List.all_eq_false]
                                exact ⟨i, List.mem_range.mpr iD, by rw [← hr, e]; decide⟩)
                              have next : ∀ r : Bool, r = okP D T own other b ps i → r = true → ∀ j, j < i + 1 → okP D T own other b ps j = true := fun r hr e j hj => by
                                by_cases ej : j = i
                                · rw [ej, ← hr, e]
                                · exact hok j (by omega)
                              refine ite2 (fun c => ?_) (fun c => ?_)
                              · have hc := dec_t c
                                have e : decide (y2 = .non) = okP D T own other b ps i := by
                                  unfold okP
                                  rw [if_pos (by omega), getD]
                                  generalize ps[i] = d2 at hyd
                                  cases hyd <;> first | rfl | (simp only [isN]; exact decide_eq_false (by intro z; cases z))
                                refine ⟨_, rfl, rfl, _, rfl, ?_⟩
                                cases hq : decide (y2 = .non) with
                                | true =>
                                  refine iteF ?_
                                  exact ⟨rfl, _, _, rfl, next _ e hq⟩
                                | false =>
                                  refine iteT ?_
                                  exact go _ e hq
                              · have hc := dec_f c
                                have e : okB D T other own (1 + (i : Int)) ps[i] = okP D T own other b ps i := by
                                  unfold okP
                                  rw [if_neg (by omega), getD]
                                refine ⟨_, rfl, _, rfl, _, rfl, _, rfl, _, rfl, _, _, rfl, rfl, _, rfl, M, y2, ps[i], D, T, _, _, _, _, _, rfl, rfl, by omega, hD, by omega, .data hyd, _, rfl, ?_⟩
                                cases hq : okB D T other own (1 + (i : Int)) ps[i] with
                                | true =>
                                  refine iteF ?_
                                  exact ⟨rfl, _, _, rfl, next _ e hq⟩
                                | false =>
                                  refine iteT ?_
                                  exact go _ e hq
                            · rintro σ H' ⟨rfl, bv, pv, rfl, hok⟩
                              have all : ((List.range D).all (okP D T own other b ps)) = true := List.all_eq_true.mpr fun j hj => hok j (by have := List.mem_range.mp hj; omega)
                              rw [all] at k
                              exact k
                          · have e : ¬ ((ys.length : Nat) : Int) = (D : Int) := by rw [hys.len]; omega
                            rw [decide_eq_false e]
                            refine iteT ?_
                            exact no (by rw [decide_eq_false hpl]; rfl)
                        | _ => cases hzt
            | _ => cases hi1
      · rw [decide_eq_false hl]
        refine iteT ?_
        exact no (by
          cases T with
          | zero =>
            match ds, hl with
            | [], _ => simp only [okB]
            | [_], hl => exact absurd (by simp) hl
            | _ :: _ :: _, _ => simp only [okB]
          | succ T =>
            rw [if_pos (decide_eq_true (show (0 : Int) < ((T + 1 : Nat) : Int) by omega))] at hl
            match ds, hl with
            | [], _ => simp only [okB]
            | [_], _ => simp only [okB]
            | [_, _], hl => exact absurd (by simp) hl
            | _ :: _ :: _ :: _, _ => simp only [okB])
    | _ => cases ht
theorem has_right (B : Blt mg) (d : Def K mg "_law_right" s_law_right ["value", "colours", "own", "other", "reach", "back"]) (g : Has P w K mg base CX0 1 "_law_integer" ["value"] (spInteger K)) :
    ∀ n : Nat, Has P w K mg base CX0 (n + 1) "_law_right" ["value", "colours", "own", "other", "reach", "back"] (spLook K n)
  | 0 => d.has fun f fd F => by
    have no : ∀ vs H Q E, ¬ spLook K 0 vs H Q E := fun vs H Q E h => by
      obtain ⟨_, _, _, _, _, _, _, _, _, _, _, _, _, _, h, _⟩ := h
      omega
    exact ⟨fun vs H Q E h => absurd h (no vs H Q E), fun A outer s H args us vs Q E _ _ _ _ h => absurd h (no vs H Q E)⟩
  | n + 1 => d.has fun f fd F => ok_right n B g (has_right B d g n) F
end
/-! ### sizes of views -/
def vbulk (D : Nat) : Nat → Nat
  | 0 => 2
  | T + 1 => D * (vbulk D T + 1) + 4
theorem okB_zero_iff {D : Nat} {own other b : Int} {d : PyData} (h : okB D 0 own other b d = true) : ∃ i, d = .tuple [.int i] ∧ 0 ≤ i ∧ i < own := by
  simp only [okB] at h
  split at h
  · rename_i x
    cases x with
    | int i =>
      have h' : (decide (0 ≤ i) && decide (i ≤ own - 1)) = true := h
      rw [Bool.and_eq_true] at h'
      exact ⟨i, rfl, of_decide_eq_true h'.1, by have := of_decide_eq_true h'.2; omega⟩
    | _ => cases h
  · cases h
theorem okB_succ_iff {D T : Nat} {own other b : Int} {d : PyData} (h : okB D (T + 1) own other b d = true) : ∃ i ps, d = .tuple [.int i, .tuple ps] ∧ 0 ≤ i ∧ i < own ∧ ps.length = D ∧ ∀ j, j < D → okP D T own other b ps j = true := by
  have h0 := h
  simp only [okB] at h
  split at h
  · rename_i x ps
    rw [okB_succ, Bool.and_eq_true, Bool.and_eq_true] at h0
    obtain ⟨⟨h1, h2⟩, h3⟩ := h0
    cases x with
    | int i =>
      have h' : (decide (0 ≤ i) && decide (i ≤ own - 1)) = true := h1
      rw [Bool.and_eq_true] at h'
      exact ⟨i, ps, rfl, of_decide_eq_true h'.1, by have := of_decide_eq_true h'.2; omega, of_decide_eq_true h2, fun j hj => List.all_eq_true.mp h3 j (List.mem_range.mpr hj)⟩
    | _ => cases h1
  · cases h
theorem okB_sized {D : Nat} : ∀ (T : Nat) (own other b : Int) (d : PyData), own ≤ 4 → other ≤ 4 → okB D T own other b d = true → Sized (vbulk D T) (2 * T + 1) d
  | 0, own, other, b, d, ho, _, h => by
    obtain ⟨i, rfl, i0, i1⟩ := okB_zero_iff h
    have h := sized_tup (m := 0) (h := 0) (ds := [.int i]) fun d hd => by
      rw [List.mem_singleton.mp hd]
      exact sized_int (by omega)
    exact h.more (by simp [vbulk]) (by omega)
  | T + 1, own, other, b, d, ho, ht, h => by
    obtain ⟨i, ps, rfl, i0, i1, hl, hp⟩ := okB_succ_iff h
    have sp := sized_tup (m := vbulk D T) (h := 2 * T + 1) (ds := ps) fun e he => by
      obtain ⟨j, hj⟩ := List.getElem?_of_mem he
      have jl := (List.getElem?_eq_some_iff.mp hj).1
      have q := hp j (by omega)
      unfold okP at q
      rw [show ps.getD j .none = e by simp [List.getD, hj]] at q
      split at q
      · cases e with
        | none => exact sized_non.more (Nat.zero_le _) (Nat.zero_le _)
        | _ => cases q
      · exact okB_sized T other own _ e ht ho q
    rw [hl] at sp
    have z := sized_two (sized_int (i := i) (by omega)) sp
    exact z.more (by simp only [vbulk]; omega) (by omega)
/-- how large the law's values may be -/
def vb (T : Nat) : Nat := vbulk 4 T
theorem vbulk_mono {D : Nat} (hD : D ≤ 4) : ∀ T, vbulk D T ≤ vb T
  | 0 => Nat.le_refl _
  | T + 1 => by
    have := Nat.mul_le_mul hD (Nat.add_le_add_right (vbulk_mono hD T) 1)
    show D * (vbulk D T + 1) + 4 ≤ 4 * (vbulk 4 T + 1) + 4
    exact Nat.add_le_add_right this 4
def cb : Nat → Nat
  | 0 => 300
  | T + 1 => 4 * cb T + 10
theorem vb_cb : ∀ {T : Nat}, T ≤ 4 → 20 * (vb T + 6) ≤ cb T
  | 0, _ => by decide
  | 1, _ => by decide
  | 2, _ => by decide
  | 3, _ => by decide
  | 4, _ => by decide
theorem cb_le : ∀ {T : Nat}, T ≤ 4 → cb T ≤ 100000
  | 0, _ => by decide
  | 1, _ => by decide
  | 2, _ => by decide
  | 3, _ => by decide
  | 4, _ => by decide
theorem vb_le_cb {T : Nat} (h : T ≤ 4) : vb T ≤ cb T := by have := vb_cb h; omega
section
variable {P : Program} {w : World} {K : PySem.W.Frag} {mg : Str → Option Value} {base : Heap}
/-- a drawn view -/
def spDrawn (K : PySem.W.Frag) (n : Nat) : Sp := fun vs H Q _ => ∃ (h d : Addr) (ds : List Int) (k D T : Nat) (dd own other t b : Int), vs = [.ref h, .int dd, .int own, .int other, .int t, .int b] ∧ dd = D ∧ t = T ∧ Hand H h d ds k ∧ 1 ≤ own ∧ own ≤ 4 ∧ 1 ≤ other ∧ other ≤ 4 ∧ D ≤ 4 ∧ T < n ∧
  ∀ (p : Addr) (H' : Hp) (k' : Nat) (e : PyData), Go (· = h) H H' → Hand H' h d ds k' → Dt K H' (.ref p) e → okB D T own other b e = true → Q (.ref p) H'
theorem ok_drawn (n : Nat) {f : Addr} {fd : FuncData} (B : Blt mg) (g_law_take : Has P w K mg base CX0 1 "_law_take" ["hand", "many"] (spTake K)) (g_law_drawn : Has P w K mg base CX0 (n + 1) "_law_drawn" ["hand", "colours", "own", "other", "reach", "back"] (spDrawn K n))
    (F : Fun K "_law_drawn" "_law_drawn" s_law_drawn f fd) : FnOk P w K mg base CX0 (n + 2) f fd ["hand", "colours", "own", "other", "reach", "back"] (spDrawn K (n + 1)) := by
  have sc : FnScope ["hand", "colours", "own", "other", "reach", "back", "parts", "colour"] ["hand", "colours", "own", "other", "reach", "back"] (defScope s_law_drawn) := ⟨rfl, rfl, rfl, by decide +kernel, rfl, by decide +kernel, by decide +kernel⟩
  refine F.ok sc (fun vs H Q E h => ?_) (fun cdv A outer s H vs Q E hr h => ?_)
  · obtain ⟨_, _, _, _, _, _, _, _, _, _, _, rfl, _⟩ := h
    rfl
  obtain ⟨h, d, ds, n0, D, T, dd, own, other, t, b, rfl, rfl, rfl, hh, o1, o4, u1, u4, hD, hT, k⟩ := h
  refine ⟨_, (pss_cons (ps_if (pt_cmpR op_eqi (pv 4) pe_int (nomark _))
      (pss_one (ps_ret (pe_tup (pa_cons (pc g_law_take hr (pa_cons (pv 0) (pa_cons (pv 2) pa_nil))) pa_nil))))
      pss_nil)
    (pss_cons (ps_set (i := 6) sc.nd rfl (Or.inl rfl) (pe_lst pa_nil))
    (pss_cons (ps_for PassesOwn.never rfl (pi_range2 (by rfl) B.range (pa_cons pe_int (pa_cons (pe_op op_add (pv 1) pe_int) pa_nil))) (pg_name (i := 7) sc.nd rfl (Or.inl rfl))
      (pss_one (ps_if (pt_cmpR op_eqi (pv 7) (pv 5) (nomark _))
        (pss_one (ps_expr (pe_bm PySem.F.plainAttrs_list PySem.F.slot_list_append PySem.F.type_list_append mt_append (pv 6) (pa_cons pe_non pa_nil))))
        (pss_one (ps_expr (pe_bm PySem.F.plainAttrs_list PySem.F.slot_list_append PySem.F.type_list_append mt_append (pv 6) (pa_cons (pc g_law_drawn hr (pa_cons (pv 0) (pa_cons (pv 1) (pa_cons (pv 3) (pa_cons (pv 2) (pa_cons (pe_op op_sub (pv 4) pe_int) (pa_cons (pv 7) pa_nil))))))) pa_nil)))))))
    (pss_one (ps_ret (pe_tup (pa_cons (pc g_law_take hr (pa_cons (pv 0) (pa_cons (pv 2) pa_nil))) (pa_cons (pe_callTy call_tuple_of (by rfl) B.tuple (by decide +kernel) (pa_cons (pv 6) pa_nil)) pa_nil)))))))), ?_⟩
  refine ⟨_, rfl, _, _, rfl, rfl, _, rfl, ?_⟩
  refine ite2 (fun c => ?_) (fun c => ?_)
  · obtain rfl : T = 0 := by have := dec_t c; omega
    refine ⟨_, rfl, _, rfl, h, d, ds, n0, own, rfl, hh.1, hh.2, by omega, by omega, fun r r0 r1 => ?_⟩
    refine ⟨(by show 1 ≤ sizeLine; decide), fun p hp => ?_⟩
    exact k p _ (n0 + 1) (.tuple [.int r]) (hh.go.trans (Go.new hp _)) (hh.next.new hp _) (.tup (SqT.of upd_same) (.cons (.int _) .nil)) (by
      rw [okB_zero]
      show (decide (0 ≤ r) && decide (r ≤ own - 1)) = true
      rw [decide_eq_true r0, decide_eq_true (p := r ≤ own - 1) (by omega)]
      rfl)
  have c' := dec_f c
  obtain ⟨S, rfl⟩ : ∃ S, T = S + 1 := ⟨T - 1, by omega⟩
  refine ⟨Nat.zero_le _, fun p hp => ?_⟩
  have nph : p ≠ h := ne_of_none hh.1 hp |>.symm
  have npd : p ≠ d := ne_of_none hh.2 hp |>.symm
  refine ⟨_, rfl, _, _, rfl, rfl, 1, (D : Int) + 1, rfl, ⟨by decide, by decide, by omega, by omega⟩, for_range (lo := 1) (n := ((D : Int) + 1 - 1).toNat) (fun i σ H' => ∃ (n1 : Nat) (cv : Option V) (xs : List V) (es : List PyData), σ = [some (.ref h), some (.int D), some (.int own), some (.int other), some (.int ((S + 1 : Nat) : Int)), some (.int b), some (.ref p), cv] ∧
      H' p = some (.lst xs) ∧ DtAll K H' xs es ∧ es.length = i ∧ (∀ j, j < i → okP D S own other b es j = true) ∧ Go (· = h) H H' ∧ Hand H' h d ds n1)
    ⟨n0, none, [], [], rfl, upd_same, .nil, rfl, fun j hj => absurd hj (Nat.not_lt_zero j), Go.new hp _, hh.new hp _⟩ ?_ ?_⟩
  · rintro i σ H' hi ⟨n1, cv, xs, es, rfl, hp', hx, hl, hok, g, hh'⟩
    have few : xs.length < sizeLine := by
      rw [hx.len, hl]
      exact Nat.lt_of_lt_of_le (show i < 100000 by omega) (by decide)
    have more : ∀ e : PyData, okP D S own other b (es ++ [e]) i = true → ∀ j, j < i + 1 → okP D S own other b (es ++ [e]) j = true := fun e he j hj => by
      by_cases ej : j = i
      · rw [ej]; exact he
      · have q := hok j (by omega)
        unfold okP at q ⊢
        rw [show (es ++ [e]).getD j .none = es.getD j .none by simp [List.getD, List.getElem?_append_left (show j < es.length by omega)]]
        exact q
    have last : ∀ e : PyData, (es ++ [e]).getD i .none = e := fun e => by simp [List.getD, ← hl]
    refine ⟨_, rfl, _, rfl, _, _, rfl, rfl, _, rfl, ?_⟩
    refine ite2 (fun c1 => ?_) (fun c1 => ?_)
    · have e1 := dec_t c1
      refine ⟨_, rfl, .inl ⟨rfl, _, SqL.of hp'⟩, p, _, _, rfl, rfl, hp', few, ?_⟩
      refine ⟨n1, _, xs ++ [.non], es ++ [.none], rfl, upd_same, (hx.stay (tups_lst hp')).app (.cons .non .nil), by simp [hl], more _ ?_, g.own hp _, hh'.off nph npd _⟩
      unfold okP
      rw [if_pos e1, last]
      rfl
    · have e1 := dec_f c1
      refine ⟨_, rfl, .inl ⟨rfl, _, SqL.of hp'⟩, _, rfl, _, rfl, _, rfl, _, rfl, _, rfl, _, _, rfl, rfl, _, rfl, h, d, ds, n1, D, S, _, _, _, _, _, rfl, rfl, by omega, hh', u1, u4, o1, o4, hD, by omega, fun q H2 n2 e g2 hh2 hd he => ?_⟩
      have hp2 : H2 p = some (.lst xs) := g2.out _ _ nph hp'
      refine ⟨p, _, _, rfl, rfl, hp2, few, ?_⟩
      refine ⟨n2, _, xs ++ [.ref q], es ++ [e], rfl, upd_same, (hx.stay (g2.tups.trans (tups_lst hp2))).app (.cons (hd.stay (tups_lst hp2)) .nil), by simp [hl], more _ ?_, (g.trans g2).own hp _, hh2.off nph npd _⟩
      unfold okP
      rw [if_neg e1, last]
      exact he
  · rintro σ H' ⟨n1, cv, xs, es, rfl, hp', hx, hl, hok, g, hh'⟩
    refine ⟨_, rfl, _, rfl, h, d, ds, n1, own, rfl, hh'.1, hh'.2, by omega, by omega, fun r r0 r1 => ?_⟩
    have hp2 := hh'.go.out _ _ nph hp'
    refine ⟨_, rfl, p, xs, rfl, .inl ⟨SqL.of hp2, fun l hl' => ?_⟩⟩
    refine ⟨(by show 2 ≤ sizeLine; decide), fun q hq => ?_⟩
    have nlq : l ≠ q := fun z => by rw [← z, upd_same] at hq; cases hq
    have s2 := (same_new hl' (.tup xs)).trans (same_new hq (.tup [.int r, .ref l]))
    have eD : es.length = D := by omega
    refine k q _ (n1 + 1) (.tuple [.int r, .tuple es]) ((g.trans hh'.go).trans s2.go) (hh'.next.same s2) (.tup (SqT.of upd_same) (.cons (.int _) (.cons (.tup (SqT.of (by rw [upd_ne nlq, upd_same])) (hx.stay (hh'.tups.trans s2.tups))) .nil))) ?_
    rw [okB_succ]
    have en : isNum (.int r) 0 (own - 1) = true := by
      show (decide (0 ≤ r) && decide (r ≤ own - 1)) = true
      rw [decide_eq_true r0, decide_eq_true (p := r ≤ own - 1) (by omega)]
      rfl
    rw [en, decide_eq_true eD]
    exact List.all_eq_true.mpr fun j hj => hok j (by have := List.mem_range.mp hj; omega)
theorem has_drawn (B : Blt mg) (d : Def K mg "_law_drawn" s_law_drawn ["hand", "colours", "own", "other", "reach", "back"]) (g : Has P w K mg base CX0 1 "_law_take" ["hand", "many"] (spTake K)) :
    ∀ n : Nat, Has P w K mg base CX0 (n + 1) "_law_drawn" ["hand", "colours", "own", "other", "reach", "back"] (spDrawn K n)
  | 0 => d.has fun f fd F => by
    have no : ∀ vs H Q E, ¬ spDrawn K 0 vs H Q E := fun vs H Q E h => by
      obtain ⟨_, _, _, _, _, _, _, _, _, _, _, _, _, _, _, _, _, _, _, _, h, _⟩ := h
      omega
    exact ⟨fun vs H Q E h => absurd h (no vs H Q E), fun A outer s H args us vs Q E _ _ _ _ h => absurd h (no vs H Q E)⟩
  | n + 1 => d.has fun f fd F => ok_drawn n B g (has_drawn B d g n) F
end
section
variable {P : Program} {w : World} {K : PySem.W.Frag} {mg : Str → Option Value} {base : Heap}
/-- the view with something changed at its top -/
def spHere (K : PySem.W.Frag) : Sp := fun vs H Q _ => ∃ (h d p : Addr) (ds : List Int) (k D T : Nat) (own other b : Int) (e : PyData), vs = [.ref h, .ref p, .int own] ∧ Hand H h d ds k ∧ 1 ≤ own ∧ own ≤ 4 ∧ other ≤ 4 ∧ 1 ≤ D ∧ D ≤ 4 ∧ T ≤ 4 ∧ Dt K H (.ref p) e ∧ okB D T own other b e = true ∧
  ∀ (v : V) (H' : Hp) (k' : Nat) (e' : PyData), Go (· = h) H H' → Hand H' h d ds k' → Dv (· = h) K H' v e' → Sized (cb T) 20 e' → Q v H'
set_option maxHeartbeats 4000000 in
theorem ok_here {f : Addr} {fd : FuncData} (B : Blt mg) (g_law_take : Has P w K mg base CX0 1 "_law_take" ["hand", "many"] (spTake K)) (F : Fun K "_law_here" "_law_here" s_law_here f fd) : FnOk P w K mg base CX0 2 f fd ["hand", "value", "own"] (spHere K) := by
  have sc : FnScope ["hand", "value", "own", "shape", "rest", "parts", "at", "k"] ["hand", "value", "own"] (defScope s_law_here) := ⟨rfl, rfl, rfl, by decide +kernel, rfl, by decide +kernel, by decide +kernel⟩
  refine F.ok sc (fun vs H Q E h => ?_) (fun cdv A outer s H vs Q E hr h => ?_)
  · obtain ⟨_, _, _, _, _, _, _, _, _, _, _, rfl, _⟩ := h
    rfl
  obtain ⟨h, d, p, ds, n0, D, T, own, other, b, e, rfl, hh, o1, o4, u4, hD1, hD4, hT, hd, he, k⟩ := h
  -- the value's items: an int, and perhaps the parts
  obtain ⟨i, xs, es, rfl, hsp, hxs, hes, hi0, hi1, hlen, hparts⟩ : ∃ (i : Int) (xs : List V) (es : List PyData), e = .tuple (.int i :: es) ∧ SqT K H p (.int i :: xs) ∧ DtAll K H xs es ∧ (∀ d ∈ es, Sized (vb T) 12 d) ∧ 0 ≤ i ∧ i < own ∧ es.length ≤ 1 ∧
      (∀ z ∈ es, ∃ ps q ys, z = .tuple ps ∧ xs = [.ref q] ∧ SqT K H q ys ∧ DtAll K H ys ps ∧ ps.length = D ∧ ∀ d ∈ ps, Sized (vb T) 12 d) := by
    cases T with
    | zero =>
      obtain ⟨i, rfl, i0, i1⟩ := okB_zero_iff he
      cases hd with
      | tup h1 h2 =>
        cases h2 with
        | cons h3 h4 =>
          cases h3
          cases h4
          exact ⟨i, [], [], rfl, h1, .nil, by simp, i0, i1, Nat.zero_le _, by simp⟩
    | succ S =>
      have big := okB_sized (S + 1) own other b e o4 u4 he
      obtain ⟨i, ps, rfl, i0, i1, hl, hp⟩ := okB_succ_iff he
      have each : ∀ d ∈ ps, Sized (vb (S + 1)) 12 d := fun d hd => by
        obtain ⟨j, hj⟩ := List.getElem?_of_mem hd
        have jl := (List.getElem?_eq_some_iff.mp hj).1
        have q := hp j (by omega)
        unfold okP at q
        rw [show ps.getD j .none = d by simp [List.getD, hj]] at q
        split at q
        · cases d with
          | none => exact sized_non.more (Nat.zero_le _) (Nat.zero_le _)
          | _ => cases q
        · have z := okB_sized S other own _ d u4 o4 q
          refine z.more (Nat.le_trans (vbulk_mono hD4 S) ?_) (by omega)
          show vbulk 4 S ≤ 4 * (vbulk 4 S + 1) + 4
          omega
      have top : Sized (vb (S + 1)) 12 (.tuple ps) := by
        have z := sized_tup each
        obtain ⟨a1, a2, a3, a4⟩ := big
        simp only [PyData.leavesShort, PyData.leavesShortAll, PyData.showable, PyData.showableAll, PyData.depth, PyData.depthAll, PyData.bulk, PyData.bulkAll, Bool.and_eq_true] at a1 a2 a3 a4
        have m := vbulk_mono hD4 (S + 1)
        refine ⟨by simpa only [PyData.leavesShort] using a1.2.1, by simpa only [PyData.showable] using a2.2.1, ?_, ?_⟩
        · simp only [PyData.depth]
          omega
        · simp only [PyData.bulk]
          omega
      cases hd with
      | tup h1 h2 =>
        cases h2 with
        | cons h3 h4 =>
          cases h3
          cases h4 with
          | @cons v _ _ _ h5 h6 =>
            cases h6
            cases h5 with
            | @tup q ys _ h7 h8 =>
              refine ⟨i, [.ref q], [.tuple ps], rfl, h1, .cons (.tup h7 h8) .nil, fun d hd => by rw [List.mem_singleton.mp hd]; exact top, i0, i1, Nat.le_refl _, fun z hz => ?_⟩
              rw [List.mem_singleton.mp hz]
              exact ⟨ps, q, ys, rfl, rfl, h7, h8, hl, each⟩
  refine ⟨_, (pss_cons (ps_set (i := 3) sc.nd rfl (Or.inl rfl) (pc g_law_take hr (pa_cons (pv 0) (pa_cons pe_int pa_nil))))
    (pss_cons (ps_set (i := 4) sc.nd rfl (Or.inl rfl) (pe_slice sl_cut (pv 1) (po_some pe_int) po_none))
    (pss_cons (ps_if (pt_cmpR op_lt (pv 3) pe_int (nomark _))
      (pss_one (ps_ret (pe_op op_plus (pe_tup (pa_cons (pe_ix ix_list (pe_lst (pa_cons (pv 2) (pa_cons (pe_op op_add (pv 2) pe_int) (pa_cons (pe_un un_neg pe_int) (pa_cons pe_non (pa_cons pe_str (pa_cons (pe_tup (pa_cons pe_int pa_nil)) (pa_cons (pe_op op_sub (pv 2) pe_int) (pa_cons (pe_op op_pow pe_int pe_int) pa_nil))))))))) (pc g_law_take hr (pa_cons (pv 0) (pa_cons pe_int pa_nil))) (fun _ _ => rfl)) pa_nil)) (pv 4))))
      pss_nil)
    (pss_cons (ps_if (pt_cmpR op_eqi (pv 3) pe_int (nomark _))
      (pss_one (ps_ret (pe_op op_plus (pe_tup (pa_cons (pe_cmpR op_eqi (pe_ix ix_tup (pv 1) pe_int (fun _ _ => rfl)) pe_int (nomark _)) pa_nil)) (pv 4))))
      pss_nil)
    (pss_cons (ps_if (pt_cmpR op_eqi (pv 3) pe_int (nomark _))
      (pss_one (ps_ret (pe_callTy call_list_of (by rfl) B.list (by decide +kernel) (pa_cons (pv 1) pa_nil))))
      pss_nil)
    (pss_cons (ps_if (pt_cmpR op_eqi (pv 3) pe_int (nomark _))
      (pss_one (ps_ret (pe_op op_plus (pv 1) (pe_ix ix_list (pe_lst (pa_cons (pe_tup (pa_cons (pe_tup pa_nil) pa_nil)) (pa_cons (pe_tup (pa_cons pe_non pa_nil)) (pa_cons (pe_tup (pa_cons pe_int pa_nil)) pa_nil)))) (pc g_law_take hr (pa_cons (pv 0) (pa_cons pe_int pa_nil))) (fun _ _ => rfl)))))
      pss_nil)
    (pss_cons (ps_if (pt_cmpR op_eqi (pv 3) pe_int (nomark _))
      (pss_one (ps_ret (pe_ix ix_list (pe_lst (pa_cons (pe_slice sl_cut (pv 1) po_none (po_some pe_int)) (pa_cons (pe_tup pa_nil) (pa_cons pe_non (pa_cons (pe_ix ix_tup (pv 1) pe_int (fun _ _ => rfl)) (pa_cons (pe_lst (pa_cons (pe_ix ix_tup (pv 1) pe_int (fun _ _ => rfl)) pa_nil)) pa_nil)))))) (pc g_law_take hr (pa_cons (pv 0) (pa_cons pe_int pa_nil))) (fun _ _ => rfl))))
      pss_nil)
    (pss_cons (ps_if (pt_cmpR op_eqi (pe_callB call_len_seq (by rfl) B.len (by decide +kernel) (pa_cons (pv 4) pa_nil)) pe_int (nomark _))
      (pss_one (ps_ret (pe_tup (pa_cons (pe_ix ix_tup (pv 1) pe_int (fun _ _ => rfl)) (pa_cons (pe_callTy call_tuple_of (by rfl) B.tuple (by decide +kernel) (pa_cons (pe_lc (own := [("k", 7)]) (g := gName 7) (tt := tYes) rfl sc.nd (pi_range1 (by rfl) B.range (pa_cons pe_int pa_nil)) (blkOk_by (N := ["hand", "value", "own", "shape", "rest", "parts", "at", "k"]) (sc := defScope s_law_here) (by decide +kernel)) (fun _ _ _ _ _ => pg_name (i := 7) sc.nd rfl (Or.inl rfl)) (fun _ _ _ _ _ => pts_nil) (fun _ _ _ _ _ => (pe_tup (pa_cons pe_int pa_nil)))) pa_nil)) pa_nil)))))
      pss_nil)
    (pss_cons (ps_set (i := 5) sc.nd rfl (Or.inl rfl) (pe_ix ix_tup (pv 1) pe_int (fun _ _ => rfl)))
    (pss_cons (ps_set (i := 6) sc.nd rfl (Or.inl rfl) (pc g_law_take hr (pa_cons (pv 0) (pa_cons (pe_callB call_len_seq (by rfl) B.len (by decide +kernel) (pa_cons (pv 5) pa_nil)) pa_nil))))
    (pss_cons (ps_if (pt_cmpR op_eqi (pv 3) pe_int (nomark _))
      (pss_one (ps_ret (pe_tup (pa_cons (pe_ix ix_tup (pv 1) pe_int (fun _ _ => rfl)) (pa_cons (pe_callTy call_list_of (by rfl) B.list (by decide +kernel) (pa_cons (pv 5) pa_nil)) pa_nil)))))
      pss_nil)
    (pss_cons (ps_if (pt_cmpR op_eqi (pv 3) pe_int (nomark _))
      (pss_one (ps_ret (pe_tup (pa_cons (pe_ix ix_tup (pv 1) pe_int (fun _ _ => rfl)) (pa_cons (pe_slice sl_cut (pv 5) po_none (po_some (pe_un un_neg pe_int))) pa_nil)))))
      pss_nil)
    (pss_cons (ps_if (pt_cmpR op_eqi (pv 3) pe_int (nomark _))
      (pss_one (ps_ret (pe_tup (pa_cons (pe_ix ix_tup (pv 1) pe_int (fun _ _ => rfl)) (pa_cons (pe_op op_plus (pv 5) (pe_tup (pa_cons (pe_ix ix_tup (pv 5) (pv 6) (fun _ _ => rfl)) pa_nil))) pa_nil)))))
      pss_nil)
    (pss_cons (ps_if (pt_cmpR op_eqi (pv 3) pe_int (nomark _))
      (pss_one (ps_ret (pe_tup (pa_cons (pe_ix ix_tup (pv 1) pe_int (fun _ _ => rfl)) (pa_cons (pe_op op_plus (pe_op op_plus (pe_slice sl_cut (pv 5) po_none (po_some (pv 6))) (pe_tup (pa_cons pe_non pa_nil))) (pe_slice sl_cut (pv 5) (po_some (pe_op op_add (pv 6) pe_int)) po_none)) pa_nil)))))
      pss_nil)
    (pss_one (ps_ret (pe_tup (pa_cons (pe_ix ix_tup (pv 1) pe_int (fun _ _ => rfl)) (pa_cons (pe_op op_plus (pe_op op_plus (pe_slice sl_cut (pv 5) po_none (po_some (pv 6))) (pe_tup (pa_cons (pe_ix ix_tup (pv 5) (pe_op op_sub (pv 6) pe_int) (fun _ _ => rfl)) pa_nil))) (pe_slice sl_cut (pv 5) (po_some (pe_op op_add (pv 6) pe_int)) po_none)) pa_nil))))))))))))))))))), ?_⟩
  have vcb := vb_cb hT
  -- small things
  have sInt : ∀ z : Int, z.natAbs < 10 ^ 39 → Sized (vb T + 5) 12 (.int z) := fun z hz => (sized_int hz).more (Nat.zero_le _) (Nat.zero_le _)
  have sNon : Sized (vb T + 5) 12 .none := sized_non.more (Nat.zero_le _) (Nat.zero_le _)
  have sBl : ∀ z : Bool, Sized (vb T + 5) 12 (.bool z) := fun z => (sized_bl z).more (Nat.zero_le _) (Nat.zero_le _)
  have sOne : ∀ z : PyData, Sized 2 3 z → Sized (vb T + 5) 12 (.tuple [z]) := fun z hz => (sized_tup (m := 2) (h := 3) (ds := [z]) fun d hd => by rw [List.mem_singleton.mp hd]; exact hz).more (by show 1 * 3 ≤ _; omega) (by omega)
  have sEmp : ∀ m h', 1 ≤ h' → Sized m h' (.tuple []) := fun m h' hh' => (sized_tup (m := 0) (h := 0) (ds := []) (by simp)).more (by simp) (by omega)
  have sEs : ∀ z ∈ es, Sized (vb T + 5) 12 z := fun z hz => (hes z hz).more (by omega) (by omega)
  have sI : Sized (vb T + 5) 12 (.int i) := sInt i (by omega)
  -- a tuple of few small things; one with an int ahead of such
  have row : ∀ zs : List PyData, zs.length ≤ 6 → (∀ z ∈ zs, Sized (vb T + 5) 12 z) → Sized (6 * (vb T + 6)) 13 (.tuple zs) := fun zs hl hz => (sized_tup hz).more (Nat.mul_le_mul_right _ hl) (by omega)
  have fin1 : ∀ {v : V} {H' : Hp} {k' : Nat} {zs : List PyData} {q : Addr} {ys : List V}, v = .ref q → Go (· = h) H H' → Hand H' h d ds k' → SqT K H' q ys → DvAll (· = h) K H' ys zs → zs.length ≤ 6 → (∀ z ∈ zs, Sized (vb T + 5) 12 z) → Q v H' := fun {v H' k' zs q ys} ev g h' hq hys hl hz => by
    rw [ev]
    exact k _ H' k' (.tuple zs) g h' (.tup hq hys) ((row zs hl hz).more (by omega) (by omega))
  have fin2 : ∀ {H' : Hp} {k' : Nat} {zs : List PyData} {q r : Addr} {ys : List V}, Go (· = h) H H' → Hand H' h d ds k' → SqT K H' q [.int i, .ref r] → SqT K H' r ys → DvAll (· = h) K H' ys zs → zs.length ≤ 6 → (∀ z ∈ zs, Sized (vb T + 5) 12 z) → Q (.ref q) H' := fun {H' k' zs q r ys} g h' hq hr' hys hl hz =>
    k _ H' k' (.tuple [.int i, .tuple zs]) g h' (.tup hq (.cons (.int i) (.cons (.tup hr' hys) .nil))) ((sized_two sI (row zs hl hz)).more (by omega) (by omega))
  have at0 : ∀ zs : List V, atI (V.int i :: zs) 0 = some (.int i) := fun zs => at_of (j := 0) rfl rfl
  -- shape, rest
  refine ⟨_, rfl, h, d, ds, n0, 12, rfl, hh.1, hh.2, by omega, by omega, fun sh sh0 sh1 => ?_⟩
  have hh1 := hh.next
  have g1 := hh.go
  refine ⟨_, rfl, _, rfl, p, _, rfl, g1.seqT hsp, fun rp H2 s2 hrp => ?_⟩
  rw [show (1 : Int) = ((1 : Nat) : Int) from rfl, cut_from] at hrp
  have hrp : SqT K H2 rp xs := hrp
  have g2 := g1.trans s2.go
  have hh2 := hh1.same s2
  have p2 := g2.seqT hsp
  have x2 := hxs.stay g2.tups
  -- [..] + rest
  refine ⟨_, rfl, _, _, rfl, rfl, _, rfl, ?_⟩
  refine ite2 (fun _ => ?_) (fun _ => ?_)
  · refine ⟨_, rfl, _, rfl, _, _, rfl, rfl, _, rfl, (by show 1 ≤ sizeLine; decide), fun t ht => ?_⟩
    refine ⟨_, rfl, _, _, rfl, rfl, _, _, rfl, rfl, ⟨by decide, by decide, by decide⟩, (by show 8 ≤ sizeLine; decide), fun l hl => ?_⟩
    have s3 := (same_new ht (.tup [.int 0])).trans (same_new hl (.lst [.int own, .int (own + 3), .int (-1), .non, .str "0", .ref t, .int (own - 1), .int (10 ^ (20 : Int).toNat)]))
    have ntl : t ≠ l := fun z => by rw [← z, upd_same] at hl; cases hl
    have hh3 := hh2.same s3
    have row8 : DvAll (· = h) K (upd (upd H2 t (.tup [.int 0])) l (.lst [.int own, .int (own + 3), .int (-1), .non, .str "0", .ref t, .int (own - 1), .int (10 ^ (20 : Int).toNat)])) [.int own, .int (own + 3), .int (-1), .non, .str "0", .ref t, .int (own - 1), .int (10 ^ (20 : Int).toNat)]
        [.int own, .int (own + 3), .int (-1), .none, .str "0", .tuple [.int 0], .int (own - 1), .int (10 ^ (20 : Int).toNat)] :=
      .cons (.int _) (.cons (.int _) (.cons (.int _) (.cons .non (.cons (.str _) (.cons (.tup (SqT.of (by rw [upd_ne ntl, upd_same])) (.cons (.int _) .nil)) (.cons (.int _) (.cons (.int _) .nil)))))))
    refine ⟨_, rfl, h, d, ds, _, 8, rfl, hh3.1, hh3.2, by omega, by omega, fun r r0 r1 => ?_⟩
    have row8' := row8.stay hh3.go
    obtain ⟨y, e', hy, hm, hyd⟩ := row8'.pick (i := r) (by show -((8 : Nat) : Int) ≤ r; omega) (by show r < ((8 : Nat) : Int); omega)
    have nlh : l ≠ h := (ne_of_none (by rw [upd_ne (ne_of_none hh2.1 ht)]; exact hh2.1) hl).symm
    refine ⟨l, _, _, y, rfl, rfl, SqL.of (by rw [upd_ne nlh, upd_same]), hy, (by show 1 ≤ sizeLine; decide), fun q hq => ?_⟩
    have s4 := same_new hq (.tup [y])
    refine ⟨_, rfl, q, rp, _, _, rfl, rfl, SqT.of upd_same, s4.seqT (hh3.go.seqT (s3.seqT hrp)), (small16 (by rw [hxs.len]; show 1 + _ ≤ _; omega)), fun q2 H3 s5 hq2 => ?_⟩
    have gg := (((g2.trans s3.go).trans hh3.go).trans s4.go).trans s5.go
    have size : Sized (vb T + 5) 12 e' := by
      simp only [List.mem_cons, List.not_mem_nil, or_false] at hm
      rcases hm with rfl | rfl | rfl | rfl | rfl | rfl | rfl | rfl
      · exact sInt _ (by omega)
      · exact sInt _ (by omega)
      · exact sInt _ (by decide)
      · exact sNon
      · exact (sized_str "0" (by decide +kernel) 2 (by decide +kernel)).more (by omega) (by omega)
      · exact sOne _ (sized_int (by decide) |>.more (by omega) (by omega))
      · exact sInt _ (by omega)
      · exact sInt _ (by decide)
    exact fin1 rfl gg ((hh3.next.same s4).same s5) hq2 (.cons (hyd.stay (s4.trans s5).go) (hxs.dv.stay gg)) (by simp only [List.length_cons]; omega) (fun z hz => by
      rcases List.mem_cons.mp hz with rfl | hz
      · exact size
      · exact sEs z hz)
  -- (value[0] == 1,) + rest
  refine ⟨_, rfl, _, _, rfl, rfl, _, rfl, ?_⟩
  refine ite2 (fun _ => ?_) (fun _ => ?_)
  · refine ⟨_, rfl, p, _, _, _, rfl, rfl, p2, at0 _, _, _, rfl, rfl, (by show 1 ≤ sizeLine; decide), fun q hq => ?_⟩
    have s4 := same_new hq (.tup [.bl (decide (i = 1))])
    refine ⟨_, rfl, q, rp, _, _, rfl, rfl, SqT.of upd_same, s4.seqT hrp, (small16 (by rw [hxs.len]; show 1 + _ ≤ _; omega)), fun q2 H3 s5 hq2 => ?_⟩
    have gg := (g2.trans s4.go).trans s5.go
    exact fin1 rfl gg ((hh2.same s4).same s5) hq2 (.cons (.bl _) (hxs.dv.stay gg)) (by simp only [List.length_cons]; omega) (fun z hz => by
      rcases List.mem_cons.mp hz with rfl | hz
      · exact sBl _
      · exact sEs z hz)
  -- list(value)
  refine ⟨_, rfl, _, _, rfl, rfl, _, rfl, ?_⟩
  refine ite2 (fun _ => ?_) (fun _ => ?_)
  · refine ⟨_, rfl, p, _, rfl, .inr p2, fun l hl => ?_⟩
    have s4 := same_new hl (.lst (V.int i :: xs))
    have nlh : ¬ l = h := (ne_of_none hh2.1 hl).symm
    refine k _ _ _ (.list (.int i :: es)) (g2.trans s4.go) (hh2.same s4) (.lst nlh (SqL.of upd_same) (.cons (.int _) (hxs.dv.stay (g2.trans s4.go)))) ?_
    have z := sized_lst (m := vb T + 5) (h := 12) (ds := PyData.int i :: es) (fun z hz => by
      rcases List.mem_cons.mp hz with rfl | hz
      · exact sI
      · exact sEs z hz)
    refine z.more ?_ (by omega)
    have := Nat.mul_le_mul_right (vb T + 5 + 1) (show (PyData.int i :: es).length ≤ 2 by simp only [List.length_cons]; omega)
    omega
  -- value + ..
  refine ⟨_, rfl, _, _, rfl, rfl, _, rfl, ?_⟩
  refine ite2 (fun _ => ?_) (fun _ => ?_)
  · refine ⟨_, rfl, Nat.zero_le _, fun a1 ha1 => ⟨(by show 1 ≤ sizeLine; decide), fun a2 ha2 => ⟨(by show 1 ≤ sizeLine; decide), fun a3 ha3 => ⟨(by show 1 ≤ sizeLine; decide), fun a4 ha4 => ⟨(by show 3 ≤ sizeLine; decide), fun l hl => ?_⟩⟩⟩⟩⟩
    have t1 := same_new ha1 (.tup [])
    have t2 := same_new ha2 (.tup [.ref a1])
    have t3 := same_new ha3 (.tup [.non])
    have t4 := same_new ha4 (.tup [.int 0])
    have t5 := same_new hl (.lst [.ref a2, .ref a3, .ref a4])
    have tt := (((t1.trans t2).trans t3).trans t4).trans t5
    have hh3 := hh2.same tt
    have z1 := (((t2.trans t3).trans t4).trans t5) _ _ upd_same
    have z2 := ((t3.trans t4).trans t5) _ _ upd_same
    have z3 := (t4.trans t5) _ _ upd_same
    have z4 := t5 _ _ upd_same
    refine ⟨_, rfl, h, d, ds, _, 3, rfl, hh3.1, hh3.2, by omega, by omega, fun r r0 r1 => ?_⟩
    have row3 : DtAll K _ [.ref a2, .ref a3, .ref a4] [.tuple [.tuple []], .tuple [.none], .tuple [.int 0]] :=
      .cons (.tup (SqT.of z2) (.cons (.tup (SqT.of z1) .nil) .nil)) (.cons (.tup (SqT.of z3) (.cons .non .nil)) (.cons (.tup (SqT.of z4) (.cons (.int _) .nil)) .nil))
    have row3' := row3.stay hh3.tups
    obtain ⟨y, e', hy, hm, hyd⟩ := row3'.pick (i := r) (by show -((3 : Nat) : Int) ≤ r; omega) (by show r < ((3 : Nat) : Int); omega)
    have nlh : l ≠ h := fun z => by
      have q := (((t1.trans t2).trans t3).trans t4) _ _ hh2.1
      rw [← z, hl] at q
      cases q
    refine ⟨l, _, _, y, rfl, rfl, SqL.of (by rw [upd_ne nlh, upd_same]), hy, ?_⟩
    obtain ⟨qa, ys, zs, rfl, hqa, hzs, hz1, hzz⟩ : ∃ qa ys zs, y = .ref qa ∧ SqT K _ qa ys ∧ DtAll K _ ys zs ∧ zs.length = 1 ∧ ∀ z ∈ zs, Sized (vb T + 5) 12 z := by
      simp only [List.mem_cons, List.not_mem_nil, or_false] at hm
      rcases hm with rfl | rfl | rfl
      all_goals
        cases hyd with
        | tup b1 b2 => refine ⟨_, _, _, rfl, b1, b2, rfl, fun z hz => ?_⟩; rw [List.mem_singleton.mp hz]; first | exact sEmp _ _ (by omega) | exact sNon | exact sInt _ (by decide)
    have gg := (g2.trans tt.go).trans hh3.go
    refine ⟨p, qa, _, _, rfl, rfl, gg.seqT hsp, hqa, (small16 (by rw [hzs.len, hz1, List.length_cons, hxs.len]; omega)), fun q2 H3 s5 hq2 => ?_⟩
    have ge := gg.trans s5.go
    exact fin1 rfl ge (hh3.next.same s5) hq2 ((DvAll.cons (.int i) (hxs.dv.stay ge)).app (hzs.stay s5.tups).dv) (by simp only [List.length_append, List.length_cons]; omega) (fun z hz => by
      rcases List.mem_append.mp hz with hz | hz
      · rcases List.mem_cons.mp hz with rfl | hz
        · exact sI
        · exact sEs z hz
      · exact hzz z hz)
  -- [value[:1], (), None, value[0], [value[0]]][..]
  refine ⟨_, rfl, _, _, rfl, rfl, _, rfl, ?_⟩
  refine ite2 (fun _ => ?_) (fun _ => ?_)
  · refine ⟨_, rfl, _, rfl, p, _, rfl, p2, fun q1 H3 s3 hq1 => ?_⟩
    rw [show (1 : Int) = ((1 : Nat) : Int) from rfl, cut_to] at hq1
    refine ⟨Nat.zero_le _, fun a1 ha1 => ?_⟩
    have t1 := same_new ha1 (.tup [])
    have p3 := t1.seqT (s3.seqT p2)
    refine ⟨_, rfl, p, _, _, _, rfl, rfl, p3, at0 _, ?_⟩
    refine ⟨_, rfl, p, _, _, _, rfl, rfl, p3, at0 _, (by show 1 ≤ sizeLine; decide), fun l1 hl1 => ⟨(by show 5 ≤ sizeLine; decide), fun l hl => ?_⟩⟩
    have t2 := same_new hl1 (.lst [.int i])
    have t3 := same_new hl (.lst [.ref q1, .ref a1, .non, .int i, .ref l1])
    have tt := (s3.trans t1).trans (t2.trans t3)
    have hh3 := hh2.same tt
    have nl1 : ¬ l1 = h := fun z => by
      have q := (s3.trans t1) _ _ hh2.1
      rw [← z, hl1] at q
      cases q
    have nl : l ≠ h := fun z => by
      have q := ((s3.trans t1).trans t2) _ _ hh2.1
      rw [← z, hl] at q
      cases q
    refine ⟨_, rfl, h, d, ds, _, 5, rfl, hh3.1, hh3.2, by omega, by omega, fun r r0 r1 => ?_⟩
    have row5 : DvAll (· = h) K _ [.ref q1, .ref a1, .non, .int i, .ref l1] [.tuple [.int i], .tuple [], .none, .int i, .list [.int i]] :=
      .cons (.tup ((t1.trans (t2.trans t3)).seqT hq1) (.cons (.int i) .nil)) (.cons (.tup (SqT.of ((t2.trans t3) _ _ upd_same)) .nil) (.cons .non (.cons (.int i) (.cons (.lst nl1 (SqL.of (t3 _ _ upd_same)) (.cons (.int i) .nil)) .nil))))
    have row5' := row5.stay hh3.go
    obtain ⟨y, e', hy, hm, hyd⟩ := row5'.pick (i := r) (by show -((5 : Nat) : Int) ≤ r; omega) (by show r < ((5 : Nat) : Int); omega)
    refine ⟨l, _, _, y, rfl, rfl, SqL.of (by rw [upd_ne nl, upd_same]), hy, ?_⟩
    refine k y _ _ e' ((g2.trans tt.go).trans hh3.go) hh3.next hyd ?_
    simp only [List.mem_cons, List.not_mem_nil, or_false] at hm
    rcases hm with rfl | rfl | rfl | rfl | rfl
    · exact (row [.int i] (by simp) (fun z hz => by rw [List.mem_singleton.mp hz]; exact sI)).more (by omega) (by omega)
    · exact sEmp _ _ (by omega)
    · exact sNon.more (by omega) (by omega)
    · exact sI.more (by omega) (by omega)
    · exact (sized_lst (m := vb T + 5) (h := 12) (ds := [.int i]) (fun z hz => by rw [List.mem_singleton.mp hz]; exact sI)).more (by show 1 * _ ≤ _; omega) (by omega)
  -- len(rest) == 0
  refine ⟨_, rfl, rp, _, rfl, .inr hrp, _, _, rfl, rfl, _, rfl, ?_⟩
  refine ite2 (fun c => ?_) (fun c => ?_)
  · refine ⟨_, rfl, p, _, _, _, rfl, rfl, p2, at0 _, ?_⟩
    refine ⟨3, rfl, by decide, by decide, fun l hl => ?_⟩
    refine lc_range (lo := 0) (n := (3 : Int).toNat) (fun j H3 => ∃ zs, H3 l = some (.lst zs) ∧ DtAll K H3 zs (List.replicate j (.tuple [.int 0])) ∧ Same H2 H3) ⟨[], upd_same, .nil, same_new hl _⟩ ?_ ?_
    · rintro j H3 hj ⟨zs, hz, hzs, s3⟩
      refine ⟨rfl, ?_⟩
      refine ⟨(by show 1 ≤ sizeLine; decide), fun t ht => ?_⟩
      have t1 := same_new ht (.tup [.int 0])
      have hz2 := t1 _ _ hz
      refine ⟨zs, hz2, ?_, zs ++ [.ref t], upd_same, ?_, same_own (s3.trans t1) hl _⟩
      · rw [hzs.len, List.length_replicate]
        have : j < 3 := hj
        exact Nat.lt_of_lt_of_le (show j < 100000 by omega) (by decide)
      · rw [List.replicate_succ']
        exact (hzs.stay (t1.tups.trans (tups_lst hz2))).app (.cons (.tup ((tups_lst hz2).seq (SqT.of upd_same)) (.cons (.int 0) .nil)) .nil)
    · rintro H3 ⟨zs, hz, hzs, s3⟩
      refine ⟨l, zs, rfl, .inl ⟨SqL.of hz, fun q hq => ?_⟩⟩
      refine ⟨(by show 2 ≤ sizeLine; decide), fun o ho => ?_⟩
      have nqo : q ≠ o := fun z => by rw [← z, upd_same] at ho; cases ho
      have t2 := (same_new hq (.tup zs)).trans (same_new ho (.tup [.int i, .ref q]))
      refine fin2 (zs := List.replicate 3 (.tuple [.int 0])) (g2.trans (s3.trans t2).go) (hh2.same (s3.trans t2)) (SqT.of upd_same) (SqT.of (by rw [upd_ne nqo, upd_same])) (hzs.stay t2.tups).dv (by decide) (fun z hz => ?_)
      rw [(List.mem_replicate.mp hz).2]
      exact sOne _ (sized_int (by decide) |>.more (by omega) (by omega))
  -- there are parts
  have c' := dec_f c
  rw [hxs.len] at c'
  obtain ⟨z0, hz0⟩ : ∃ z0, es = [z0] := by
    match es, c', hlen with
    | [], c', _ => exact absurd rfl c'
    | [z], _, _ => exact ⟨z, rfl⟩
    | _ :: _ :: _, _, hl => exact absurd hl (by simp)
  obtain ⟨ps, q, ys, ez, ex, hq, hys, hpl, hps⟩ := hparts z0 (by rw [hz0]; exact List.mem_singleton.mpr rfl)
  subst ex
  have sPs : ∀ z ∈ ps, Sized (vb T + 5) 12 z := fun z hz => (hps z hz).more (by omega) (by omega)
  have hyl : ys.length = D := by rw [hys.len, hpl]
  have q2 := g2.seqT hq
  have at1 : atI [V.int i, .ref q] 1 = some (.ref q) := at_of (j := 1) rfl rfl
  refine ⟨_, rfl, p, _, _, _, rfl, rfl, p2, at1, ?_⟩
  refine ⟨_, rfl, _, rfl, q, _, rfl, .inr q2, h, d, ds, _, (ys.length : Int), rfl, hh2.1, hh2.2, by omega, by omega, fun a a0 a1 => ?_⟩
  have hh3 := hh2.next
  have g3 := g2.trans hh2.go
  have p3 := g3.seqT hsp
  have q3 := g3.seqT hq
  have y3 := (hys.stay g3.tups)
  have an : a = ((a.toNat : Nat) : Int) := by omega
  have al : a.toNat < D := by omega
  -- (value[0], list(parts))
  refine ⟨_, rfl, _, _, rfl, rfl, _, rfl, ?_⟩
  refine ite2 (fun _ => ?_) (fun _ => ?_)
  · refine ⟨_, rfl, p, _, _, _, rfl, rfl, p3, at0 _, ?_⟩
    refine ⟨_, rfl, q, _, rfl, .inr q3, fun l hl => ⟨(by show 2 ≤ sizeLine; decide), fun o ho => ?_⟩⟩
    have nlo : l ≠ o := fun z => by rw [← z, upd_same] at ho; cases ho
    have t2 := (same_new hl (.lst ys)).trans (same_new ho (.tup [.int i, .ref l]))
    have nl : ¬ l = h := fun z => by rw [z, hh3.1] at hl; cases hl
    refine k _ _ _ (.tuple [.int i, .list ps]) (g3.trans t2.go) (hh3.same t2) (.tup (SqT.of upd_same) (.cons (.int i) (.cons (.lst nl (SqL.of (by rw [upd_ne nlo, upd_same])) (y3.stay t2.tups).dv) .nil))) ?_
    have z := sized_lst sPs
    refine (sized_two sI (z.more (Nat.mul_le_mul_right _ (show ps.length ≤ 6 by omega)) (Nat.le_refl _))).more (by omega) (by omega)
  -- (value[0], parts[:-1])
  refine ⟨_, rfl, _, _, rfl, rfl, _, rfl, ?_⟩
  refine ite2 (fun _ => ?_) (fun _ => ?_)
  · refine ⟨_, rfl, p, _, _, _, rfl, rfl, p3, at0 _, ?_⟩
    refine ⟨_, rfl, _, rfl, _, rfl, q, _, rfl, q3, fun q4 H4 s4 hq4 => ⟨(by show 2 ≤ sizeLine; decide), fun o ho => ?_⟩⟩
    have t1 := same_new ho (.tup [.int i, .ref q4])
    have cut : cutV ys none (some (-1)) = ys.take (ys.length - 1) := by
      have ne : ys ≠ [] := fun z => by rw [z] at hyl; simp at hyl; omega
      have q := List.dropLast_concat_getLast ne
      rw [← q, cut_last, List.length_append, List.length_singleton]
      simp
    rw [cut] at hq4
    exact fin2 (zs := ps.take (ys.length - 1)) ((g3.trans s4.go).trans t1.go) ((hh3.same s4).same t1) (SqT.of upd_same) (t1.seqT hq4) (((y3.take _).stay (s4.trans t1).tups).dv) (by rw [List.length_take]; omega) (fun z hz => sPs z (List.mem_of_mem_take hz))
  -- (value[0], parts + (parts[at],))
  refine ⟨_, rfl, _, _, rfl, rfl, _, rfl, ?_⟩
  refine ite2 (fun _ => ?_) (fun _ => ?_)
  · refine ⟨_, rfl, p, _, _, _, rfl, rfl, p3, at0 _, ?_⟩
    obtain ⟨y, e', hy, hm, hyd⟩ := y3.pick (i := a) (by omega) (by omega)
    refine ⟨_, rfl, _, rfl, _, rfl, q, _, _, y, rfl, rfl, q3, hy, (by show 1 ≤ sizeLine; decide), fun t ht => ?_⟩
    have t1 := same_new ht (.tup [y])
    refine ⟨q, t, _, _, rfl, rfl, t1.seqT q3, SqT.of upd_same, (small16 (by show _ + 1 ≤ _; omega)), fun q4 H4 s4 hq4 => ⟨(by show 2 ≤ sizeLine; decide), fun o ho => ?_⟩⟩
    have t2 := same_new ho (.tup [.int i, .ref q4])
    have ts := (t1.trans s4).trans t2
    exact fin2 (zs := ps ++ [e']) (g3.trans ts.go) (hh3.same ts) (SqT.of upd_same) (t2.seqT hq4) ((y3.stay ts.tups).app (.cons (hyd.stay ts.tups) .nil)).dv (by rw [List.length_append, List.length_singleton]; omega) (fun z hz => by
      rcases List.mem_append.mp hz with hz | hz
      · exact sPs z hz
      · rw [List.mem_singleton.mp hz]
        exact sPs _ hm)
  -- (value[0], parts[:at] + (None,) + parts[at + 1:])
  refine ⟨_, rfl, _, _, rfl, rfl, _, rfl, ?_⟩
  refine ite2 (fun _ => ?_) (fun _ => ?_)
  · refine ⟨_, rfl, p, _, _, _, rfl, rfl, p3, at0 _, ?_⟩
    refine ⟨_, rfl, _, rfl, _, rfl, q, _, rfl, q3, fun q4 H4 s4 hq4 => ⟨(by show 1 ≤ sizeLine; decide), fun t ht => ?_⟩⟩
    rw [an, cut_to] at hq4
    have t1 := same_new ht (.tup [.non])
    refine ⟨q4, t, _, _, rfl, rfl, t1.seqT hq4, SqT.of upd_same, (small16 (by rw [List.length_take]; show _ + 1 ≤ _; omega)), fun q5 H5 s5 hq5 => ?_⟩
    refine ⟨_, rfl, _, rfl, _, _, rfl, rfl, _, rfl, q, _, rfl, ((s4.trans t1).trans s5).seqT q3, fun q6 H6 s6 hq6 => ?_⟩
    rw [show a + 1 = ((a.toNat + 1 : Nat) : Int) by omega, cut_from] at hq6
    refine ⟨q5, q6, _, _, rfl, rfl, s6.seqT hq5, hq6, (small16 (by rw [List.length_append, List.length_take, List.length_drop]; show _ + 1 + _ ≤ _; omega)), fun q7 H7 s7 hq7 => ⟨(by show 2 ≤ sizeLine; decide), fun o ho => ?_⟩⟩
    have t2 := same_new ho (.tup [.int i, .ref q7])
    have ts := ((((s4.trans t1).trans s5).trans s6).trans s7).trans t2
    have y7 := y3.stay ts.tups
    exact fin2 (zs := ps.take a.toNat ++ [.none] ++ ps.drop (a.toNat + 1)) (g3.trans ts.go) (hh3.same ts) (SqT.of upd_same) (t2.seqT hq7) (((y7.take _).app (.cons .non .nil)).app (y7.drop _)).dv (by rw [List.length_append, List.length_append, List.length_take, List.length_drop]; show _ + 1 + _ ≤ _; omega) (fun z hz => by
      rcases List.mem_append.mp hz with hz | hz
      · rcases List.mem_append.mp hz with hz | hz
        · exact sPs z (List.mem_of_mem_take hz)
        · rw [List.mem_singleton.mp hz]
          exact sNon
      · exact sPs z (List.mem_of_mem_drop hz))
  -- (value[0], parts[:at] + (parts[at - 1],) + parts[at + 1:])
  refine ⟨_, rfl, p, _, _, _, rfl, rfl, p3, at0 _, ?_⟩
  refine ⟨_, rfl, _, rfl, _, rfl, q, _, rfl, q3, fun q4 H4 s4 hq4 => ?_⟩
  rw [an, cut_to] at hq4
  have y4 := y3.stay s4.tups
  obtain ⟨y, e', hy, hm, hyd⟩ := y4.pick (i := a - 1) (by omega) (by omega)
  refine ⟨_, rfl, _, rfl, _, _, rfl, rfl, q, _, _, y, rfl, rfl, s4.seqT q3, hy, (by show 1 ≤ sizeLine; decide), fun t ht => ?_⟩
  have t1 := same_new ht (.tup [y])
  refine ⟨q4, t, _, _, rfl, rfl, t1.seqT hq4, SqT.of upd_same, (small16 (by rw [List.length_take]; show _ + 1 ≤ _; omega)), fun q5 H5 s5 hq5 => ?_⟩
  refine ⟨_, rfl, _, rfl, _, _, rfl, rfl, _, rfl, q, _, rfl, ((s4.trans t1).trans s5).seqT q3, fun q6 H6 s6 hq6 => ?_⟩
  rw [show a + 1 = ((a.toNat + 1 : Nat) : Int) by omega, cut_from] at hq6
  refine ⟨q5, q6, _, _, rfl, rfl, s6.seqT hq5, hq6, (small16 (by rw [List.length_append, List.length_take, List.length_drop]; show _ + 1 + _ ≤ _; omega)), fun q7 H7 s7 hq7 => ⟨(by show 2 ≤ sizeLine; decide), fun o ho => ?_⟩⟩
  have t2 := same_new ho (.tup [.int i, .ref q7])
  have ts := ((((s4.trans t1).trans s5).trans s6).trans s7).trans t2
  have ts1 := (((t1.trans s5).trans s6).trans s7).trans t2
  have y7 := y3.stay ts.tups
  exact fin2 (zs := ps.take a.toNat ++ [e'] ++ ps.drop (a.toNat + 1)) (g3.trans ts.go) (hh3.same ts) (SqT.of upd_same) (t2.seqT hq7) (((y7.take _).app (.cons (hyd.stay ts1.tups) .nil)).app (y7.drop _)).dv (by rw [List.length_append, List.length_append, List.length_take, List.length_drop]; show _ + 1 + _ ≤ _; omega) (fun z hz => by
    rcases List.mem_append.mp hz with hz | hz
    · rcases List.mem_append.mp hz with hz | hz
      · exact sPs z (List.mem_of_mem_take hz)
      · rw [List.mem_singleton.mp hz]
        exact sPs _ hm
    · exact sPs z (List.mem_of_mem_drop hz))
end
theorem cb_big : ∀ S, 300 ≤ cb S
  | 0 => Nat.le_refl _
  | S + 1 => by
    have := cb_big S
    simp only [cb]
    omega
section
variable {P : Program} {w : World} {K : PySem.W.Frag} {mg : Str → Option Value} {base : Heap}
/-- the view with something changed at some depth -/
def spChanged (K : PySem.W.Frag) (n : Nat) : Sp := fun vs H Q _ => ∃ (h d p : Addr) (ds : List Int) (k D T : Nat) (own other b dp : Int) (e : PyData), vs = [.ref h, .ref p, .int own, .int other, .int dp] ∧ Hand H h d ds k ∧ 1 ≤ own ∧ own ≤ 4 ∧ 1 ≤ other ∧ other ≤ 4 ∧ 1 ≤ D ∧ D ≤ 4 ∧ T ≤ 4 ∧ 0 ≤ dp ∧ dp < n ∧ Dt K H (.ref p) e ∧ okB D T own other b e = true ∧
  ∀ (v : V) (H' : Hp) (k' : Nat) (e' : PyData), Go (· = h) H H' → Hand H' h d ds k' → Dv (· = h) K H' v e' → Sized (cb T) (20 + 2 * T) e' → Q v H'
set_option maxHeartbeats 4000000 in
theorem ok_changed (n : Nat) {f : Addr} {fd : FuncData} (B : Blt mg) (g_law_take : Has P w K mg base CX0 1 "_law_take" ["hand", "many"] (spTake K)) (g_law_here : Has P w K mg base CX0 2 "_law_here" ["hand", "value", "own"] (spHere K))
    (g_law_changed : Has P w K mg base CX0 (n + 2) "_law_changed" ["hand", "value", "own", "other", "depth"] (spChanged K n))
    (F : Fun K "_law_changed" "_law_changed" s_law_changed f fd) : FnOk P w K mg base CX0 (n + 3) f fd ["hand", "value", "own", "other", "depth"] (spChanged K (n + 1)) := by
  have sc : FnScope ["hand", "value", "own", "other", "depth", "at", "part", "made"] ["hand", "value", "own", "other", "depth"] (defScope s_law_changed) := ⟨rfl, rfl, rfl, by decide +kernel, rfl, by decide +kernel, by decide +kernel⟩
  refine F.ok sc (fun vs H Q E h => ?_) (fun cdv A outer s H vs Q E hr h => ?_)
  · obtain ⟨_, _, _, _, _, _, _, _, _, _, _, _, rfl, _⟩ := h
    rfl
  obtain ⟨h, d, p, ds, n0, D, T, own, other, b, dp, e, rfl, hh, o1, o4, u1, u4, hD1, hD4, hT, dp0, dpn, hd, he, k⟩ := h
  refine ⟨_, (pss_cons (ps_if (PW.pt (pw_or (pt_cmpR op_eqi (pv 4) pe_int (nomark _)) (pw_or1 (pt_cmpR op_lt (pe_callB call_len_seq (by rfl) B.len (by decide +kernel) (pa_cons (pv 1) pa_nil)) pe_int (nomark _)))))
      (pss_one (ps_ret (pc g_law_here hr (pa_cons (pv 0) (pa_cons (pv 1) (pa_cons (pv 2) pa_nil))))))
      pss_nil)
    (pss_cons (ps_set (i := 5) sc.nd rfl (Or.inl rfl) (pc g_law_take hr (pa_cons (pv 0) (pa_cons (pe_callB call_len_seq (by rfl) B.len (by decide +kernel) (pa_cons (pe_ix ix_tup (pv 1) pe_int (fun _ _ => rfl)) pa_nil)) pa_nil))))
    (pss_cons (ps_set (i := 6) sc.nd rfl (Or.inl rfl) (pe_ix ix_tup (pe_ix ix_tup (pv 1) pe_int (fun _ _ => rfl)) (pv 5) (fun _ _ => rfl)))
    (pss_cons (ps_if (pt_cmpR op_isN (pv 6) pe_non (nomark _))
      (pss_one (ps_ret (pe_tup (pa_cons (pe_ix ix_tup (pv 1) pe_int (fun _ _ => rfl)) (pa_cons (pe_op op_plus (pe_op op_plus (pe_slice sl_cut (pe_ix ix_tup (pv 1) pe_int (fun _ _ => rfl)) po_none (po_some (pv 5))) (pe_tup (pa_cons (pe_ix ix_list (pe_lst (pa_cons (pe_tup (pa_cons pe_int pa_nil)) (pa_cons pe_int (pa_cons (pe_tup pa_nil) (pa_cons pe_bl pa_nil))))) (pc g_law_take hr (pa_cons (pv 0) (pa_cons pe_int pa_nil))) (fun _ _ => rfl)) pa_nil))) (pe_slice sl_cut (pe_ix ix_tup (pv 1) pe_int (fun _ _ => rfl)) (po_some (pe_op op_add (pv 5) pe_int)) po_none)) pa_nil)))))
      pss_nil)
    (pss_cons (ps_set (i := 7) sc.nd rfl (Or.inl rfl) (pc g_law_changed hr (pa_cons (pv 0) (pa_cons (pv 6) (pa_cons (pv 3) (pa_cons (pv 2) (pa_cons (pe_op op_sub (pv 4) pe_int) pa_nil)))))))
    (pss_one (ps_ret (pe_tup (pa_cons (pe_ix ix_tup (pv 1) pe_int (fun _ _ => rfl)) (pa_cons (pe_op op_plus (pe_op op_plus (pe_slice sl_cut (pe_ix ix_tup (pv 1) pe_int (fun _ _ => rfl)) po_none (po_some (pv 5))) (pe_tup (pa_cons (pv 7) pa_nil))) (pe_slice sl_cut (pe_ix ix_tup (pv 1) pe_int (fun _ _ => rfl)) (po_some (pe_op op_add (pv 5) pe_int)) po_none)) pa_nil)))))))))), ?_⟩
  have here : ∀ {v : V} {H' : Hp} {k' : Nat} {e' : PyData}, Go (· = h) H H' → Hand H' h d ds k' → Dv (· = h) K H' v e' → Sized (cb T) 20 e' → Q v H' := fun {v H' k' e'} g hh' hv hs => k v H' k' e' g hh' hv (hs.more (Nat.le_refl _) (by omega))
  refine ⟨_, rfl, _, _, rfl, rfl, _, rfl, ?_⟩
  refine ite2 (fun c => ?_) (fun c => ?_)
  · refine iteT ?_
    exact ⟨_, rfl, _, rfl, _, rfl, h, d, p, ds, n0, D, T, own, other, b, e, rfl, hh, o1, o4, u4, hD1, hD4, hT, hd, he, fun v H' k' e' => here⟩
  have c' := dec_f c
  cases T with
  | zero =>
    obtain ⟨i, rfl, _, _⟩ := okB_zero_iff he
    obtain ⟨a, xs, e1, ha, hx⟩ : ∃ a xs, V.ref p = .ref a ∧ SqT K H a xs ∧ DtAll K H xs [.int i] := by
      cases hd with
      | tup h1 h2 => exact ⟨_, _, rfl, h1, h2⟩
    obtain rfl := V.ref.inj e1
    refine ⟨_, rfl, p, _, rfl, .inr ha, _, _, rfl, rfl, _, rfl, ?_⟩
    rw [hx.len]
    refine iteT ?_
    exact ⟨_, rfl, _, rfl, _, rfl, h, d, p, ds, n0, D, 0, own, other, b, _, rfl, hh, o1, o4, u4, hD1, hD4, hT, hd, he, fun v H' k' e' => here⟩
  | succ S =>
    obtain ⟨i, ps, rfl, i0, i1, hpl, hps⟩ := okB_succ_iff he
    obtain ⟨q, ys, hsp, hq, hys⟩ : ∃ q ys, SqT K H p [.int i, .ref q] ∧ SqT K H q ys ∧ DtAll K H ys ps := by
      cases hd with
      | tup h1 h2 =>
        cases h2 with
        | cons h3 h4 =>
          cases h3
          cases h4 with
          | cons h5 h6 =>
            cases h6
            cases h5 with
            | tup h7 h8 => exact ⟨_, _, h1, h7, h8⟩
    have each : ∀ d ∈ ps, Sized (cb S) (20 + 2 * S) d := fun d hd => by
      obtain ⟨j, hj⟩ := List.getElem?_of_mem hd
      have jl := (List.getElem?_eq_some_iff.mp hj).1
      have q := hps j (by omega)
      unfold okP at q
      rw [show ps.getD j .none = d by simp [List.getD, hj]] at q
      split at q
      · cases d with
        | none => exact sized_non.more (Nat.zero_le _) (Nat.zero_le _)
        | _ => cases q
      · have z := okB_sized S other own _ d u4 o4 q
        exact z.more (Nat.le_trans (vbulk_mono hD4 S) (vb_le_cb (by omega))) (by omega)
    have at0 : atI [V.int i, .ref q] 0 = some (.int i) := at_of (j := 0) rfl rfl
    have at1 : atI [V.int i, .ref q] 1 = some (.ref q) := at_of (j := 1) rfl rfl
    have hyl : ys.length = D := by rw [hys.len, hpl]
    refine ⟨_, rfl, p, _, rfl, .inr hsp, _, _, rfl, rfl, _, rfl, ?_⟩
    refine iteF ?_
    refine ⟨_, rfl, _, rfl, p, _, _, _, rfl, rfl, hsp, at1, q, _, rfl, .inr hq, h, d, ds, n0, (ys.length : Int), rfl, hh.1, hh.2, by omega, by omega, fun a a0 a1 => ?_⟩
    have hh1 := hh.next
    have g1 := hh.go
    have p1 := g1.seqT hsp
    have q1 := g1.seqT hq
    have y1 := hys.stay g1.tups
    have an : a = ((a.toNat : Nat) : Int) := by omega
    have al : a.toNat < D := by omega
    obtain ⟨z, hz, _⟩ : ∃ z, ps[a.toNat]? = some z ∧ True := ⟨ps[a.toNat], by simp [hpl, al], trivial⟩
    obtain ⟨y, hy, hyd⟩ := y1.at hz
    refine ⟨_, rfl, p, _, _, _, rfl, rfl, p1, at1, _, rfl, q, _, _, y, rfl, rfl, q1, at_of (j := a.toNat) an hy, ?_⟩
    refine ⟨_, rfl, rfl, _, rfl, ?_⟩
    -- the end: (value[0], parts[:at] + (x,) + parts[at + 1:]) of some heap behind
    have fin : ∀ {H' : Hp} {k' : Nat} {r o : Addr} {x : V} {ex : PyData}, Go (· = h) H H' → Hand H' h d ds k' → SqT K H' r (ys.take a.toNat ++ [x] ++ ys.drop (a.toNat + 1)) → SqT K H' o [.int i, .ref r] → Dv (· = h) K H' x ex → Sized (cb S) (20 + 2 * S) ex → Q (.ref o) H' := fun {H' k' r o x ex} g hh' hr' ho hx hs => by
      have yy : DvAll (· = h) K H' ys ps := (hys.stay g.tups).dv
      refine k _ H' k' (.tuple [.int i, .tuple (ps.take a.toNat ++ [ex] ++ ps.drop (a.toNat + 1))]) g hh' (.tup ho (.cons (.int i) (.cons (.tup hr' (((yy.take _).app (.cons hx .nil)).app (yy.drop _))) .nil))) ?_
      have st := sized_tup (m := cb S) (h := 20 + 2 * S) (ds := ps.take a.toNat ++ [ex] ++ ps.drop (a.toNat + 1)) (fun z hz => by
        rcases List.mem_append.mp hz with hz | hz
        · rcases List.mem_append.mp hz with hz | hz
          · exact each z (List.mem_of_mem_take hz)
          · rw [List.mem_singleton.mp hz]
            exact hs
        · exact each z (List.mem_of_mem_drop hz))
      have len : (ps.take a.toNat ++ [ex] ++ ps.drop (a.toNat + 1)).length = D := by
        rw [List.length_append, List.length_append, List.length_take, List.length_drop]
        show _ + 1 + _ = _
        omega
      rw [len] at st
      have m4 := Nat.mul_le_mul_right (cb S + 1) hD4
      exact (sized_two (sized_int (i := i) (by omega)) st).more (by simp only [cb]; omega) (by omega)
    have hz2 := hps a.toNat al
    unfold okP at hz2
    rw [show ps.getD a.toNat .none = z by simp [List.getD, hz]] at hz2
    by_cases eb : 1 + ((a.toNat : Nat) : Int) = b
    · rw [if_pos eb] at hz2
      have ez : z = .none := by cases z <;> first | rfl | cases hz2
      subst ez
      cases hyd
      refine iteT ?_
      refine ⟨_, rfl, p, _, _, _, rfl, rfl, p1, at0, ?_⟩
      refine ⟨_, rfl, p, _, _, _, rfl, rfl, p1, at1, _, rfl, _, rfl, q, _, rfl, q1, fun r1 H2 s2 hr1 => ?_⟩
      rw [an, cut_to] at hr1
      -- the list of four
      refine ⟨(by show 1 ≤ sizeLine; decide), fun a1 ha1 => ⟨Nat.zero_le _, fun a2 ha2 => ⟨(by show 4 ≤ sizeLine; decide), fun l hl => ?_⟩⟩⟩
      have t1 := same_new ha1 (.tup [.int 0])
      have t2 := same_new ha2 (.tup [])
      have t3 := same_new hl (.lst [.ref a1, .int 0, .ref a2, .bl false])
      have tt := s2.trans (t1.trans (t2.trans t3))
      have hh3 := hh1.same tt
      have nl : l ≠ h := fun z => by
        have q := (s2.trans (t1.trans t2)) _ _ hh1.1
        rw [← z, hl] at q
        cases q
      have row4 : DtAll K _ [.ref a1, .int 0, .ref a2, .bl false] [.tuple [.int 0], .int 0, .tuple [], .bool false] :=
        .cons (.tup (SqT.of ((t2.trans t3) _ _ upd_same)) (.cons (.int 0) .nil)) (.cons (.int 0) (.cons (.tup (SqT.of (t3 _ _ upd_same)) .nil) (.cons (.bl false) .nil)))
      refine ⟨_, rfl, h, d, ds, _, 4, rfl, hh3.1, hh3.2, by omega, by omega, fun r r0 r1' => ?_⟩
      obtain ⟨x, ex, hx, hm, hxd⟩ := (row4.stay hh3.tups).pick (i := r) (by show -((4 : Nat) : Int) ≤ r; omega) (by show r < ((4 : Nat) : Int); omega)
      refine ⟨l, _, _, x, rfl, rfl, SqL.of (by rw [upd_ne nl, upd_same]), hx, (by show 1 ≤ sizeLine; decide), fun t ht => ?_⟩
      have g3 := (g1.trans tt.go).trans hh3.go
      have t4 := same_new ht (.tup [x])
      have r1'' := t4.seqT (hh3.go.seqT ((t1.trans (t2.trans t3)).seqT hr1))
      refine ⟨r1, t, _, _, rfl, rfl, r1'', SqT.of upd_same, (small16 (by rw [List.length_take]; show _ + 1 ≤ _; omega)), fun r2 H5 s5 hr2 => ?_⟩
      have q5 := (g3.trans (t4.trans s5).go).seqT hq
      have p5 := (g3.trans (t4.trans s5).go).seqT hsp
      refine ⟨_, rfl, p, _, _, _, rfl, rfl, p5, at1, _, rfl, _, _, rfl, rfl, _, rfl, q, _, rfl, q5, fun r3 H6 s6 hr3 => ?_⟩
      rw [show a + 1 = ((a.toNat + 1 : Nat) : Int) by omega, cut_from] at hr3
      refine ⟨r2, r3, _, _, rfl, rfl, s6.seqT hr2, hr3, (small16 (by rw [List.length_append, List.length_take, List.length_drop]; show _ + 1 + _ ≤ _; omega)), fun r4 H7 s7 hr4 => ⟨(by show 2 ≤ sizeLine; decide), fun o ho => ?_⟩⟩
      have t8 := same_new ho (.tup [.int i, .ref r4])
      have ts := (((t4.trans s5).trans s6).trans s7).trans t8
      refine fin (g3.trans ts.go) (hh3.next.same ts) (t8.seqT hr4) (SqT.of upd_same) (hxd.stay ts.tups).dv ?_
      simp only [List.mem_cons, List.not_mem_nil, or_false] at hm
      have big : 300 ≤ cb S := cb_big S
      rcases hm with rfl | rfl | rfl | rfl
      · exact (sized_tup (m := 0) (h := 0) (ds := [.int 0]) fun d hd => by rw [List.mem_singleton.mp hd]; exact sized_int (by decide)).more (by show 1 * 1 ≤ _; omega) (by omega)
      · exact (sized_int (by decide)).more (by omega) (by omega)
      · exact (sized_tup (m := 0) (h := 0) (ds := []) (by simp)).more (by simp) (by omega)
      · exact (sized_bl false).more (by omega) (by omega)
    · rw [if_neg eb] at hz2
      have ny : ¬ y = .non := fun e => by
        rw [e] at hyd
        cases hyd
        cases S <;> simp [okB] at hz2
      rw [decide_eq_false ny]
      refine iteF ?_
      obtain ⟨p2, rfl⟩ : ∃ p2, y = .ref p2 := by
        cases S with
        | zero =>
          obtain ⟨_, rfl, _⟩ := okB_zero_iff hz2
          cases hyd
          exact ⟨_, rfl⟩
        | succ S =>
          obtain ⟨_, _, rfl, _⟩ := okB_succ_iff hz2
          cases hyd
          exact ⟨_, rfl⟩
      refine ⟨_, rfl, _, rfl, _, rfl, _, rfl, _, rfl, _, _, rfl, rfl, h, d, p2, ds, _, D, S, other, own, _, dp - 1, z, rfl, hh1, u1, u4, o1, o4, hD1, hD4, by omega, by omega, by omega, hyd, hz2, fun x H2 k2 ex g2 hh2 hxd hxs => ?_⟩
      have g12 := g1.trans g2
      have p2' := g12.seqT hsp
      have q2' := g12.seqT hq
      refine ⟨_, rfl, p, _, _, _, rfl, rfl, p2', at0, ?_⟩
      refine ⟨_, rfl, p, _, _, _, rfl, rfl, p2', at1, _, rfl, _, rfl, q, _, rfl, q2', fun r1 H3 s3 hr1 => ?_⟩
      rw [an, cut_to] at hr1
      refine ⟨_, rfl, (by show 1 ≤ sizeLine; decide), fun t ht => ?_⟩
      have t4 := same_new ht (.tup [x])
      refine ⟨r1, t, _, _, rfl, rfl, t4.seqT hr1, SqT.of upd_same, (small16 (by rw [List.length_take]; show _ + 1 ≤ _; omega)), fun r2 H5 s5 hr2 => ?_⟩
      have t35 := (s3.trans t4).trans s5
      refine ⟨_, rfl, p, _, _, _, rfl, rfl, t35.seqT p2', at1, _, rfl, _, _, rfl, rfl, _, rfl, q, _, rfl, t35.seqT q2', fun r3 H6 s6 hr3 => ?_⟩
      rw [show a + 1 = ((a.toNat + 1 : Nat) : Int) by omega, cut_from] at hr3
      refine ⟨r2, r3, _, _, rfl, rfl, s6.seqT hr2, hr3, (small16 (by rw [List.length_append, List.length_take, List.length_drop]; show _ + 1 + _ ≤ _; omega)), fun r4 H7 s7 hr4 => ⟨(by show 2 ≤ sizeLine; decide), fun o ho => ?_⟩⟩
      have t8 := same_new ho (.tup [.int i, .ref r4])
      have ts := ((t35.trans s6).trans s7).trans t8
      exact fin (g12.trans ts.go) (hh2.same ts) (t8.seqT hr4) (SqT.of upd_same) (hxd.stay ts.go) hxs
theorem has_changed (B : Blt mg) (dd : Def K mg "_law_changed" s_law_changed ["hand", "value", "own", "other", "depth"]) (g1 : Has P w K mg base CX0 1 "_law_take" ["hand", "many"] (spTake K)) (g2 : Has P w K mg base CX0 2 "_law_here" ["hand", "value", "own"] (spHere K)) :
    ∀ n : Nat, Has P w K mg base CX0 (n + 2) "_law_changed" ["hand", "value", "own", "other", "depth"] (spChanged K n)
  | 0 => dd.has fun f fd F => by
    have no : ∀ vs H Q E, ¬ spChanged K 0 vs H Q E := fun vs H Q E h => by
      obtain ⟨_, _, _, _, _, _, _, _, _, _, _, _, _, _, _, _, _, _, _, _, _, h0, h, _⟩ := h
      omega
    exact ⟨fun vs H Q E h => absurd h (no vs H Q E), fun A outer s H args us vs Q E _ _ _ _ h => absurd h (no vs H Q E)⟩
  | n + 1 => dd.has fun f fd F => ok_changed n B g1 g2 (has_changed B dd g1 g2 n) F
end
theorem sized_dict0 : Sized 4 4 (.dict []) := ⟨by simp only [PyData.leavesShort, PyData.leavesShortKv], by simp only [PyData.showable, PyData.showableKv], by simp only [PyData.depth, PyData.depthKv]; omega, by simp only [PyData.bulk, PyData.bulkKv]; omega⟩
theorem sized_dict1 : Sized 8 8 (.dict [(.int 0, .tuple [.int 0])]) := by
  obtain ⟨a1, a2, a3, a4⟩ := sized_int (i := 0) (by decide)
  refine ⟨?_, ?_, ?_, ?_⟩
  · simp only [PyData.leavesShort, PyData.leavesShortKv, PyData.leavesShortAll] at a1 ⊢
    simp only [a1, Bool.and_self]
  · simp only [PyData.showable, PyData.showableKv, PyData.showableAll] at a2 ⊢
    simp only [a2, Bool.and_self]
  · simp only [PyData.depth, PyData.depthKv, PyData.depthAll]
    omega
  · simp only [PyData.bulk, PyData.bulkKv, PyData.bulkAll]
    omega
section
variable {P : Program} {w : World} {K : PySem.W.Frag} {mg : Str → Option Value} {base : Heap}
/-- any value that the law asks about -/
def spValue (K : PySem.W.Frag) : Sp := fun vs H Q _ => ∃ (h d : Addr) (ds : List Int) (k D T : Nat) (dd own other t : Int), vs = [.ref h, .int dd, .int own, .int other, .int t] ∧ dd = D ∧ t = T ∧ Hand H h d ds k ∧ 1 ≤ own ∧ own ≤ 4 ∧ 1 ≤ other ∧ other ≤ 4 ∧ 1 ≤ D ∧ D ≤ 4 ∧ T ≤ 4 ∧
  ∀ (v : V) (H' : Hp) (k' : Nat) (e' : PyData), Go (· = h) H H' → Hand H' h d ds k' → Dq (· = h) K H' v e' → Sized 100000 40 e' → Q v H'
set_option maxHeartbeats 4000000 in
theorem ok_value {f : Addr} {fd : FuncData} (B : Blt mg) (g_law_take : Has P w K mg base CX0 1 "_law_take" ["hand", "many"] (spTake K)) (g_law_drawn : Has P w K mg base CX0 6 "_law_drawn" ["hand", "colours", "own", "other", "reach", "back"] (spDrawn K 5))
    (g_law_changed : Has P w K mg base CX0 7 "_law_changed" ["hand", "value", "own", "other", "depth"] (spChanged K 5))
    (F : Fun K "_law_value" "_law_value" s_law_value f fd) : FnOk P w K mg base CX0 8 f fd ["hand", "colours", "own", "other", "reach"] (spValue K) := by
  have sc : FnScope ["hand", "colours", "own", "other", "reach", "shape", "value"] ["hand", "colours", "own", "other", "reach"] (defScope s_law_value) := ⟨rfl, rfl, rfl, by decide +kernel, rfl, by decide +kernel, by decide +kernel⟩
  refine F.ok sc (fun vs H Q E h => ?_) (fun cdv A outer s H vs Q E hr h => ?_)
  · obtain ⟨_, _, _, _, _, _, _, _, _, _, rfl, _⟩ := h
    rfl
  obtain ⟨h, d, ds, n0, D, T, dd, own, other, t, rfl, rfl, rfl, hh, o1, o4, u1, u4, hD1, hD4, hT, k⟩ := h
  refine ⟨_, (pss_cons (ps_set (i := 5) sc.nd rfl (Or.inl rfl) (pc g_law_take hr (pa_cons (pv 0) (pa_cons pe_int pa_nil))))
    (pss_cons (ps_if (pt_cmpR op_eqi (pv 5) pe_int (nomark _))
      (pss_one (ps_ret (pc g_law_drawn hr (pa_cons (pv 0) (pa_cons (pv 1) (pa_cons (pv 3) (pa_cons (pv 2) (pa_cons (pv 4) (pa_cons pe_int pa_nil)))))))))
      pss_nil)
    (pss_cons (ps_if (pt_cmpR op_eqi (pv 5) pe_int (nomark _))
      (pss_one (ps_ret (pc g_law_drawn hr (pa_cons (pv 0) (pa_cons (pv 1) (pa_cons (pv 2) (pa_cons (pv 3) (pa_cons (pv 4) (pa_cons (pe_op op_add pe_int (pc g_law_take hr (pa_cons (pv 0) (pa_cons (pv 1) pa_nil)))) pa_nil)))))))))
      pss_nil)
    (pss_cons (ps_if (pt_cmpR op_eqi (pv 5) pe_int (nomark _))
      (pss_one (ps_ret (pc g_law_drawn hr (pa_cons (pv 0) (pa_cons (pv 1) (pa_cons (pv 2) (pa_cons (pv 3) (pa_cons (pe_callB (call_max2 rfl) (by rfl) B.max (by decide +kernel) (pa_cons pe_int (pa_cons (pe_op op_sub (pv 4) pe_int) pa_nil))) (pa_cons pe_int pa_nil)))))))))
      pss_nil)
    (pss_cons (ps_if (PW.pt (pw_and (pt_cmpR op_eqi (pv 5) pe_int (nomark _)) (pw_and1 (pt_cmpR op_lt (pv 4) pe_int (nomark _)))))
      (pss_one (ps_ret (pc g_law_drawn hr (pa_cons (pv 0) (pa_cons (pv 1) (pa_cons (pv 2) (pa_cons (pv 3) (pa_cons (pe_op op_add (pv 4) pe_int) (pa_cons pe_int pa_nil)))))))))
      pss_nil)
    (pss_cons (ps_if (pt_cmpR op_eqi (pv 5) pe_int (nomark _))
      (pss_one (ps_ret (pe_ix ix_list (pe_lst (pa_cons pe_non (pa_cons pe_bl (pa_cons pe_int (pa_cons pe_str (pa_cons pe_str (pa_cons (pe_lst pa_nil) (pa_cons pe_dnewK (pa_cons (pe_disp (pps_cons pe_int (pe_tup (pa_cons pe_int pa_nil)) pps_nil) (by rfl) (by rfl) (fun z => by cases z) (by decide)) (pa_cons (pe_tup (pa_cons (pe_tup pa_nil) pa_nil)) (pa_cons (pe_lst (pa_cons pe_int pa_nil)) (pa_cons (pe_tup pa_nil) (pa_cons (pe_tup (pa_cons pe_int (pa_cons (pe_tup pa_nil) pa_nil))) pa_nil))))))))))))) (pc g_law_take hr (pa_cons (pv 0) (pa_cons pe_int pa_nil))) (fun _ _ => rfl))))
      pss_nil)
    (pss_cons (ps_set (i := 6) sc.nd rfl (Or.inl rfl) (pc g_law_drawn hr (pa_cons (pv 0) (pa_cons (pv 1) (pa_cons (pv 2) (pa_cons (pv 3) (pa_cons (pv 4) (pa_cons pe_int pa_nil))))))))
    (pss_cons (ps_if (pt_cmpR op_lt (pv 5) pe_int (nomark _))
      (pss_one (ps_ret (pv 6)))
      pss_nil)
    (pss_one (ps_ret (pc g_law_changed hr (pa_cons (pv 0) (pa_cons (pv 6) (pa_cons (pv 2) (pa_cons (pv 3) (pa_cons (pc g_law_take hr (pa_cons (pv 0) (pa_cons (pe_op op_add (pv 4) pe_int) pa_nil))) pa_nil)))))))))))))))), ?_⟩
  refine ⟨_, rfl, h, d, ds, n0, 12, rfl, hh.1, hh.2, by omega, by omega, fun sh sh0 sh1 => ?_⟩
  have hh1 := hh.next
  have g1 := hh.go
  -- a drawn one
  have drawn : ∀ {S : Nat} {o u b : Int} {p : Addr} {H1 H' : Hp} {k' : Nat} {e : PyData}, Go (· = h) H H1 → o ≤ 4 → u ≤ 4 → S ≤ 4 → Go (· = h) H1 H' → Hand H' h d ds k' → Dt K H' (.ref p) e → okB D S o u b e = true → Q (.ref p) H' := fun {S o u b p H1 H' k' e} g0 ho hu hS g hh' hd he =>
    k _ H' k' e (g0.trans g) hh' (.data hd.dv) ((okB_sized S o u b e ho hu he).more (Nat.le_trans (vbulk_mono hD4 S) (Nat.le_trans (vb_le_cb hS) (cb_le hS))) (by omega))
  refine ⟨_, rfl, _, _, rfl, rfl, _, rfl, ?_⟩
  refine ite2 (fun _ => ?_) (fun _ => ?_)
  · exact ⟨_, rfl, _, rfl, _, rfl, _, rfl, _, rfl, h, d, ds, _, D, T, _, _, _, _, _, rfl, rfl, rfl, hh1, u1, u4, o1, o4, hD4, by omega, fun p H' k' e g hh' hd he => drawn g1 u4 o4 hT g hh' hd he⟩
  refine ⟨_, rfl, _, _, rfl, rfl, _, rfl, ?_⟩
  refine ite2 (fun _ => ?_) (fun _ => ?_)
  · exact ⟨_, rfl, _, rfl, _, rfl, _, rfl, _, rfl, _, rfl, _, rfl, h, d, ds, _, _, rfl, hh1.1, hh1.2, by omega, by omega, fun r r0 r1 => ⟨_, _, rfl, rfl, h, d, ds, _, D, T, _, _, _, _, _, rfl, rfl, rfl, hh1.next, o1, o4, u1, u4, hD4, by omega, fun p H' k' e g hh' hd he => drawn (g1.trans hh1.go) o4 u4 hT g hh' hd he⟩⟩
  refine ⟨_, rfl, _, _, rfl, rfl, _, rfl, ?_⟩
  refine ite2 (fun _ => ?_) (fun _ => ?_)
  · refine ⟨_, rfl, _, rfl, _, rfl, _, rfl, _, rfl, _, _, rfl, rfl, _, _, rfl, h, d, ds, _, D, T - 1, _, _, _, _, _, rfl, rfl, ?_, hh1, o1, o4, u1, u4, hD4, by omega, fun p H' k' e g hh' hd he => drawn g1 o4 u4 (by omega) g hh' hd he⟩
    split <;> omega
  refine ⟨_, rfl, _, _, rfl, rfl, _, rfl, ?_⟩
  -- what comes behind the fourth test
  refine ite2 (fun c3 => ?_) (fun c3 => ?_)
  · refine ⟨_, rfl, _, _, rfl, rfl, _, rfl, ?_⟩
    refine ite2 (fun c4 => ?_) (fun c4 => ?_)
    · have := dec_t c4
      exact ⟨_, rfl, _, rfl, _, rfl, _, rfl, _, rfl, _, _, rfl, rfl, h, d, ds, _, D, T + 1, _, _, _, _, _, rfl, rfl, by omega, hh1, o1, o4, u1, u4, hD4, by omega, fun p H' k' e g hh' hd he => drawn g1 o4 u4 (by omega) g hh' hd he⟩
    · skip
      refine ⟨_, rfl, _, _, rfl, rfl, _, rfl, ?_⟩
      refine ite2 (fun _ => ?_) (fun _ => ?_)
      · refine ⟨Nat.zero_le _, fun a1 ha1 => ?_⟩
        have n1 : ¬ a1 = h := (ne_of_none hh1.1 ha1).symm
        have t1 := same_new ha1 (.lst [])
        have b1 := hh1.same t1
        intro a2 ha2
        have n2 : ¬ a2 = h := (ne_of_none b1.1 ha2).symm
        have t2 := same_new ha2 (.dK [])
        have b2 := b1.same t2
        intro a3 ha3
        have n3 : ¬ a3 = h := (ne_of_none b2.1 ha3).symm
        have t3 := same_new ha3 (.dK [])
        refine ⟨(by show 1 ≤ sizeLine; decide), fun a4 ha4 => ?_⟩
        have t4 := same_new ha4 (.tup [.int 0])
        have n34 : a4 ≠ a3 := (ne_of_none upd_same ha4).symm
        refine ⟨t4 _ _ upd_same, [(.inl 0, .ref a4)], rfl, (by show 1 ≤ 15; decide), ?_⟩
        have t5 := same_own (t3.trans t4) ha3 (.dK (mergeK [] [(Sum.inl 0, V.ref a4)]))
        have c4 : SqT K (upd (upd (upd (upd (upd (upd H h (.lst [.ref d, .int ((n0 + 1 : Nat) : Int)])) a1 (.lst [])) a2 (.dK [])) a3 (.dK [])) a4 (.tup [.int 0])) a3 (.dK (mergeK [] [(Sum.inl 0, V.ref a4)]))) a4 [.int 0] := SqT.of (by rw [upd_ne n34, upd_same])
        have c3 := upd_same (H := upd (upd (upd (upd (upd H h (.lst [.ref d, .int ((n0 + 1 : Nat) : Int)])) a1 (.lst [])) a2 (.dK [])) a3 (.dK [])) a4 (.tup [.int 0])) (a := a3) (o := .dK (mergeK [] [(Sum.inl 0, V.ref a4)]))
        have b5 := b2.same t5
        refine ⟨Nat.zero_le _, fun a5 ha5 => ⟨(by show 1 ≤ sizeLine; decide), fun a6 ha6 => ?_⟩⟩
        have t6 := same_new ha5 (.tup [])
        have t7 := same_new ha6 (.tup [.ref a5])
        refine ⟨(by show 1 ≤ sizeLine; decide), fun a7 ha7 => ?_⟩
        have b7 := b5.same (t6.trans t7)
        have n7 : ¬ a7 = h := (ne_of_none b7.1 ha7).symm
        have t8 := same_new ha7 (.lst [.int 0])
        refine ⟨Nat.zero_le _, fun a8 ha8 => ?_⟩
        have t9 := same_new ha8 (.tup [])
        refine ⟨Nat.zero_le _, fun a9 ha9 => ⟨(by show 2 ≤ sizeLine; decide), fun a10 ha10 => ?_⟩⟩
        have t10 := same_new ha9 (.tup [])
        have t11 := same_new ha10 (.tup [.int 0, .ref a9])
        refine ⟨(by show 12 ≤ sizeLine; decide), fun l hl => ?_⟩
        have t12 := same_new hl (.lst [.non, .bl true, .int 0, .str "", .str "(0,)", .ref a1, .ref a2, .ref a3, .ref a6, .ref a7, .ref a8, .ref a10])
        have z11 := t11.trans t12
        have z10 := t10.trans z11
        have z9 := t9.trans z10
        have z8 := t8.trans z9
        have z7 := t7.trans z8
        have z6 := t6.trans z7
        have z5 := t5.trans z6
        have z2 := t2.trans z5
        have all := t1.trans z2
        have hh3 := hh1.same all
        have nl : l ≠ h := (ne_of_none (((b7.same t8).same t9).same (t10.trans t11)).1 hl).symm
        have row : DqAll (· = h) K _ [.non, .bl true, .int 0, .str "", .str "(0,)", .ref a1, .ref a2, .ref a3, .ref a6, .ref a7, .ref a8, .ref a10]
            [.none, .bool true, .int 0, .str "", .str "(0,)", .list [], .dict [], .dict [(.int 0, .tuple [.int 0])], .tuple [.tuple []], .list [.int 0], .tuple [], .tuple [.int 0, .tuple []]] :=
          .cons (.data .non) (.cons (.data (.bl true)) (.cons (.data (.int 0)) (.cons (.data (.str _)) (.cons (.data (.str _)) (.cons (.data (.lst n1 (SqL.of (z2 _ _ upd_same)) .nil)) (.cons (Dq.dct (kvs := []) (ds := []) n2 (z5 _ _ upd_same) .nil)
            (.cons (Dq.dct (kvs := [(Sum.inl 0, V.ref a4)]) (ds := [.tuple [.int 0]]) n3 (z6 _ _ c3) (.cons (.tup (z6.seqT c4) (.cons (.int 0) .nil)) .nil))
            (.cons (.data (.tup (SqT.of (z8 _ _ upd_same)) (.cons (.tup (SqT.of (z7 _ _ upd_same)) .nil) .nil))) (.cons (.data (.lst n7 (SqL.of (z9 _ _ upd_same)) (.cons (.int 0) .nil))) (.cons (.data (.tup (SqT.of (z10 _ _ upd_same)) .nil))
            (.cons (.data (.tup (SqT.of (t12 _ _ upd_same)) (.cons (.int 0) (.cons (.tup (SqT.of (z11 _ _ upd_same)) .nil) .nil)))) .nil)))))))))))
        refine ⟨_, rfl, h, d, ds, _, 12, rfl, hh3.1, hh3.2, by omega, by omega, fun r r0 r1 => ?_⟩
        have row' : DqAll (· = h) K _ _ _ := LG.DqAll.stay hh3.go row
        obtain ⟨y, e', hy, hm, hyd⟩ := row'.pick (i := r) (by show -((12 : Nat) : Int) ≤ r; omega) (by show r < ((12 : Nat) : Int); omega)
        refine ⟨l, _, _, y, rfl, rfl, SqL.of (by rw [upd_ne nl, upd_same]), hy, ?_⟩
        refine k y _ _ e' ((g1.trans all.go).trans hh3.go) hh3.next hyd ?_
        have sI : Sized 0 0 (.int 0) := sized_int (by decide)
        have sE : Sized 0 1 (.tuple []) := (sized_tup (m := 0) (h := 0) (ds := []) (by simp)).more (by simp) (by omega)
        have s1 : ∀ z : PyData, Sized 0 1 z → Sized 1 2 (.tuple [z]) := fun z hz => (sized_tup (m := 0) (h := 1) (ds := [z]) fun d hd => by rw [List.mem_singleton.mp hd]; exact hz).more (by simp) (by omega)
        simp only [List.mem_cons, List.not_mem_nil, or_false] at hm
        rcases hm with rfl | rfl | rfl | rfl | rfl | rfl | rfl | rfl | rfl | rfl | rfl | rfl
        · exact sized_non.more (by omega) (by omega)
        · exact (sized_bl true).more (by omega) (by omega)
        · exact sI.more (by omega) (by omega)
        · exact (sized_str "" (by decide +kernel) 2 (by decide +kernel)).more (by omega) (by omega)
        · exact (sized_str "(0,)" (by decide +kernel) 10 (by decide +kernel)).more (by omega) (by omega)
        · exact (sized_lst (m := 0) (h := 0) (ds := []) (by simp)).more (by simp) (by omega)
        · exact sized_dict0.more (by omega) (by omega)
        · exact sized_dict1.more (by omega) (by omega)
        · exact (s1 _ sE).more (by omega) (by omega)
        · exact (sized_lst (m := 0) (h := 0) (ds := [.int 0]) fun d hd => by rw [List.mem_singleton.mp hd]; exact sI).more (by simp) (by omega)
        · exact sE.more (by omega) (by omega)
        · exact (sized_two sI sE).more (by omega) (by omega)
      refine ⟨_, rfl, _, rfl, _, rfl, _, rfl, _, rfl, h, d, ds, _, D, T, _, _, _, _, _, rfl, rfl, rfl, hh1, o1, o4, u1, u4, hD4, by omega, fun p H2 k2 e g2 hh2 hd he => ?_⟩
      refine ⟨_, rfl, _, _, rfl, rfl, _, rfl, ?_⟩
      refine ite2 (fun _ => ?_) (fun _ => ?_)
      · exact ⟨_, rfl, drawn g1 o4 u4 hT g2 hh2 hd he⟩
      exact ⟨_, rfl, _, rfl, _, rfl, _, rfl, _, rfl, _, rfl, _, _, rfl, rfl, h, d, ds, _, _, rfl, hh2.1, hh2.2, by omega, by omega, fun r r0 r1 => ⟨h, d, p, ds, _, D, T, _, _, _, _, e, rfl, hh2.next, o1, o4, u1, u4, hD1, hD4, hT, r0, by omega, hd.stay hh2.tups, he, fun v H' k' e' g hh' hv hs => k v H' k' e' ((g1.trans g2).trans (hh2.go.trans g)) hh' (.data hv) (hs.more (cb_le hT) (by omega))⟩⟩
  · skip
    refine ⟨_, rfl, _, _, rfl, rfl, _, rfl, ?_⟩
    refine ite2 (fun _ => ?_) (fun _ => ?_)
    · refine ⟨Nat.zero_le _, fun a1 ha1 => ?_⟩
      have n1 : ¬ a1 = h := (ne_of_none hh1.1 ha1).symm
      have t1 := same_new ha1 (.lst [])
      have b1 := hh1.same t1
      intro a2 ha2
      have n2 : ¬ a2 = h := (ne_of_none b1.1 ha2).symm
      have t2 := same_new ha2 (.dK [])
      have b2 := b1.same t2
      intro a3 ha3
      have n3 : ¬ a3 = h := (ne_of_none b2.1 ha3).symm
      have t3 := same_new ha3 (.dK [])
      refine ⟨(by show 1 ≤ sizeLine; decide), fun a4 ha4 => ?_⟩
      have t4 := same_new ha4 (.tup [.int 0])
      have n34 : a4 ≠ a3 := (ne_of_none upd_same ha4).symm
      refine ⟨t4 _ _ upd_same, [(.inl 0, .ref a4)], rfl, (by show 1 ≤ 15; decide), ?_⟩
      have t5 := same_own (t3.trans t4) ha3 (.dK (mergeK [] [(Sum.inl 0, V.ref a4)]))
      have c4 : SqT K (upd (upd (upd (upd (upd (upd H h (.lst [.ref d, .int ((n0 + 1 : Nat) : Int)])) a1 (.lst [])) a2 (.dK [])) a3 (.dK [])) a4 (.tup [.int 0])) a3 (.dK (mergeK [] [(Sum.inl 0, V.ref a4)]))) a4 [.int 0] := SqT.of (by rw [upd_ne n34, upd_same])
      have c3 := upd_same (H := upd (upd (upd (upd (upd H h (.lst [.ref d, .int ((n0 + 1 : Nat) : Int)])) a1 (.lst [])) a2 (.dK [])) a3 (.dK [])) a4 (.tup [.int 0])) (a := a3) (o := .dK (mergeK [] [(Sum.inl 0, V.ref a4)]))
      have b5 := b2.same t5
      refine ⟨Nat.zero_le _, fun a5 ha5 => ⟨(by show 1 ≤ sizeLine; decide), fun a6 ha6 => ?_⟩⟩
      have t6 := same_new ha5 (.tup [])
      have t7 := same_new ha6 (.tup [.ref a5])
      refine ⟨(by show 1 ≤ sizeLine; decide), fun a7 ha7 => ?_⟩
      have b7 := b5.same (t6.trans t7)
      have n7 : ¬ a7 = h := (ne_of_none b7.1 ha7).symm
      have t8 := same_new ha7 (.lst [.int 0])
      refine ⟨Nat.zero_le _, fun a8 ha8 => ?_⟩
      have t9 := same_new ha8 (.tup [])
      refine ⟨Nat.zero_le _, fun a9 ha9 => ⟨(by show 2 ≤ sizeLine; decide), fun a10 ha10 => ?_⟩⟩
      have t10 := same_new ha9 (.tup [])
      have t11 := same_new ha10 (.tup [.int 0, .ref a9])
      refine ⟨(by show 12 ≤ sizeLine; decide), fun l hl => ?_⟩
      have t12 := same_new hl (.lst [.non, .bl true, .int 0, .str "", .str "(0,)", .ref a1, .ref a2, .ref a3, .ref a6, .ref a7, .ref a8, .ref a10])
      have z11 := t11.trans t12
      have z10 := t10.trans z11
      have z9 := t9.trans z10
      have z8 := t8.trans z9
      have z7 := t7.trans z8
      have z6 := t6.trans z7
      have z5 := t5.trans z6
      have z2 := t2.trans z5
      have all := t1.trans z2
      have hh3 := hh1.same all
      have nl : l ≠ h := (ne_of_none (((b7.same t8).same t9).same (t10.trans t11)).1 hl).symm
      have row : DqAll (· = h) K _ [.non, .bl true, .int 0, .str "", .str "(0,)", .ref a1, .ref a2, .ref a3, .ref a6, .ref a7, .ref a8, .ref a10]
          [.none, .bool true, .int 0, .str "", .str "(0,)", .list [], .dict [], .dict [(.int 0, .tuple [.int 0])], .tuple [.tuple []], .list [.int 0], .tuple [], .tuple [.int 0, .tuple []]] :=
        .cons (.data .non) (.cons (.data (.bl true)) (.cons (.data (.int 0)) (.cons (.data (.str _)) (.cons (.data (.str _)) (.cons (.data (.lst n1 (SqL.of (z2 _ _ upd_same)) .nil)) (.cons (Dq.dct (kvs := []) (ds := []) n2 (z5 _ _ upd_same) .nil)
          (.cons (Dq.dct (kvs := [(Sum.inl 0, V.ref a4)]) (ds := [.tuple [.int 0]]) n3 (z6 _ _ c3) (.cons (.tup (z6.seqT c4) (.cons (.int 0) .nil)) .nil))
          (.cons (.data (.tup (SqT.of (z8 _ _ upd_same)) (.cons (.tup (SqT.of (z7 _ _ upd_same)) .nil) .nil))) (.cons (.data (.lst n7 (SqL.of (z9 _ _ upd_same)) (.cons (.int 0) .nil))) (.cons (.data (.tup (SqT.of (z10 _ _ upd_same)) .nil))
          (.cons (.data (.tup (SqT.of (t12 _ _ upd_same)) (.cons (.int 0) (.cons (.tup (SqT.of (z11 _ _ upd_same)) .nil) .nil)))) .nil)))))))))))
      refine ⟨_, rfl, h, d, ds, _, 12, rfl, hh3.1, hh3.2, by omega, by omega, fun r r0 r1 => ?_⟩
      have row' : DqAll (· = h) K _ _ _ := LG.DqAll.stay hh3.go row
      obtain ⟨y, e', hy, hm, hyd⟩ := row'.pick (i := r) (by show -((12 : Nat) : Int) ≤ r; omega) (by show r < ((12 : Nat) : Int); omega)
      refine ⟨l, _, _, y, rfl, rfl, SqL.of (by rw [upd_ne nl, upd_same]), hy, ?_⟩
      refine k y _ _ e' ((g1.trans all.go).trans hh3.go) hh3.next hyd ?_
      have sI : Sized 0 0 (.int 0) := sized_int (by decide)
      have sE : Sized 0 1 (.tuple []) := (sized_tup (m := 0) (h := 0) (ds := []) (by simp)).more (by simp) (by omega)
      have s1 : ∀ z : PyData, Sized 0 1 z → Sized 1 2 (.tuple [z]) := fun z hz => (sized_tup (m := 0) (h := 1) (ds := [z]) fun d hd => by rw [List.mem_singleton.mp hd]; exact hz).more (by simp) (by omega)
      simp only [List.mem_cons, List.not_mem_nil, or_false] at hm
      rcases hm with rfl | rfl | rfl | rfl | rfl | rfl | rfl | rfl | rfl | rfl | rfl | rfl
      · exact sized_non.more (by omega) (by omega)
      · exact (sized_bl true).more (by omega) (by omega)
      · exact sI.more (by omega) (by omega)
      · exact (sized_str "" (by decide +kernel) 2 (by decide +kernel)).more (by omega) (by omega)
      · exact (sized_str "(0,)" (by decide +kernel) 10 (by decide +kernel)).more (by omega) (by omega)
      · exact (sized_lst (m := 0) (h := 0) (ds := []) (by simp)).more (by simp) (by omega)
      · exact sized_dict0.more (by omega) (by omega)
      · exact sized_dict1.more (by omega) (by omega)
      · exact (s1 _ sE).more (by omega) (by omega)
      · exact (sized_lst (m := 0) (h := 0) (ds := [.int 0]) fun d hd => by rw [List.mem_singleton.mp hd]; exact sI).more (by simp) (by omega)
      · exact sE.more (by omega) (by omega)
      · exact (sized_two sI sE).more (by omega) (by omega)
    refine ⟨_, rfl, _, rfl, _, rfl, _, rfl, _, rfl, h, d, ds, _, D, T, _, _, _, _, _, rfl, rfl, rfl, hh1, o1, o4, u1, u4, hD4, by omega, fun p H2 k2 e g2 hh2 hd he => ?_⟩
    refine ⟨_, rfl, _, _, rfl, rfl, _, rfl, ?_⟩
    refine ite2 (fun _ => ?_) (fun _ => ?_)
    · exact ⟨_, rfl, drawn g1 o4 u4 hT g2 hh2 hd he⟩
    exact ⟨_, rfl, _, rfl, _, rfl, _, rfl, _, rfl, _, rfl, _, _, rfl, rfl, h, d, ds, _, _, rfl, hh2.1, hh2.2, by omega, by omega, fun r r0 r1 => ⟨h, d, p, ds, _, D, T, _, _, _, _, e, rfl, hh2.next, o1, o4, u1, u4, hD1, hD4, hT, r0, by omega, hd.stay hh2.tups, he, fun v H' k' e' g hh' hv hs => k v H' k' e' ((g1.trans g2).trans (hh2.go.trans g)) hh' (.data hv) (hs.more (cb_le hT) (by omega))⟩⟩
/-- the reach is looked at -/
def spCheck (K : PySem.W.Frag) (C : Addr) : Sp := fun vs H Q E => ∃ (M : Addr → Prop) (r : V) (re : PyData) (lo hi : Int), vs = [r, .int lo, .int hi] ∧ Dq M K H r re ∧ (isNum re lo hi = true → Q .non H) ∧ (isNum re lo hi = false → E (.ref C) none H)
theorem ok_check {C : Addr} {f : Addr} {fd : FuncData} (B : Blt mg) (eBadReach : Err K mg "BadReach" C) (gis_number : Has P w K mg base CX0 1 "is_number" ["value", "low", "high"] (spNumber K)) (F : Fun K "check_reach" "check_reach" scheck_reach f fd) : FnOk P w K mg base (L2.CX P w) 2 f fd ["reach", "low", "high"] (spCheck K C) := by
  have sc : FnScope ["reach", "low", "high"] ["reach", "low", "high"] (defScope scheck_reach) := ⟨rfl, rfl, rfl, by decide +kernel, rfl, by decide +kernel, by decide +kernel⟩
  refine F.okX sc (fun vs H Q E h => ?_) (fun cdv A outer s H vs Q E hr h => ?_)
  · obtain ⟨_, _, _, _, _, rfl, _⟩ := h
    rfl
  obtain ⟨M, r, re, lo, hi, rfl, hd, kt, kf⟩ := h
  refine ⟨_, (pss_one (ps_if (pt_not (pt_val (pc gis_number hr (pa_cons (pv 0) (pa_cons (pv 1) (pa_cons (pv 2) pa_nil))))))
      (pss_one (ps_raise rfl (takes_of rfl rfl rfl rfl) (pmk_own PySem.F.excBase_ValueError eBadReach.xi eBadReach.g eBadReach.k (raises_own eBadReach.b eBadReach.t) rfl)))
      pss_nil)), ?_⟩
  refine ⟨_, rfl, _, rfl, _, rfl, M, r, re, lo, hi, rfl, hd, _, rfl, ?_⟩
  cases hn : isNum re lo hi with
  | true =>
    refine iteF ?_
    exact kt hn
  | false =>
    refine iteT ?_
    exact kf hn
def spView (K : PySem.W.Frag) (C : Addr) : Sp := fun vs H Q E => ∃ (M : Addr → Prop) (x r : V) (d re : PyData) (D : Nat) (dd own other : Int), vs = [x, .int dd, .int own, .int other, r] ∧ dd = D ∧ D ≤ 4 ∧ Dq M K H x d ∧ Dq M K H r re ∧
  ((isNum re 0 4 = false ∧ E (.ref C) none H) ∨ (∃ T : Nat, re = .int T ∧ T ≤ 4 ∧ Q (.bl (okB D T own other 0 d)) H))
theorem ok_view {C : Addr} {f : Addr} {fd : FuncData} (B : Blt mg) (T : Cst mg) (gcheck_reach : Has P w K mg base (L2.CX P w) 2 "check_reach" ["reach", "low", "high"] (spCheck K C)) (g_is_branch : Has P w K mg base CX0 6 "_is_branch" ["value", "D", "own", "other", "reach", "colour"] (spLook K 5))
    (F : Fun K "is_view" "is_view" sis_view f fd) : FnOk P w K mg base (L2.CX P w) 7 f fd ["value", "D", "own", "other", "reach"] (spView K C) := by
  have sc : FnScope ["value", "D", "own", "other", "reach"] ["value", "D", "own", "other", "reach"] (defScope sis_view) := ⟨rfl, rfl, rfl, by decide +kernel, rfl, by decide +kernel, by decide +kernel⟩
  obtain ⟨t1, hMOST_REACH⟩ := T.MOST_REACH
  obtain ⟨t2, hNO_COLOUR⟩ := T.NO_COLOUR
  refine F.okX sc (fun vs H Q E h => ?_) (fun cdv A outer s H vs Q E hr h => ?_)
  · obtain ⟨_, _, _, _, _, _, _, _, _, rfl, _⟩ := h
    rfl
  obtain ⟨M, x, r, d, re, D, dd, own, other, rfl, rfl, hD, hd, hr', h⟩ := h
  refine ⟨_, (pss_cons (ps_expr (pcE gcheck_reach hr (takes_of rfl rfl rfl rfl) (pa_cons (pv 4) (pa_cons pe_int (pa_cons (pe_glob (v := V.int _) rfl hMOST_REACH ⟨_, rfl⟩) pa_nil)))))
    (pss_one (ps_ret (pc g_is_branch hr (pa_cons (pv 0) (pa_cons (pv 1) (pa_cons (pv 2) (pa_cons (pv 3) (pa_cons (pv 4) (pa_cons (pe_glob (v := V.int _) rfl hNO_COLOUR ⟨_, rfl⟩) pa_nil)))))))))), ?_⟩
  refine ⟨_, rfl, M, r, re, 0, 4, rfl, hr', fun hn => ?_, fun hn => ?_⟩
  · rcases h with ⟨h, _⟩ | ⟨T, rfl, hT, k⟩
    · rw [h] at hn
      cases hn
    · cases hr' with
      | data hr' =>
        cases hr'
        exact ⟨_, rfl, _, rfl, _, rfl, _, rfl, _, rfl, M, x, d, D, T, _, _, _, _, _, rfl, rfl, rfl, hD, by omega, hd, k⟩
  · rcases h with ⟨_, e⟩ | ⟨T, rfl, hT, _⟩
    · exact e
    · exfalso
      have z : isNum (.int (T : Int)) 0 4 = true := by
        show (decide (0 ≤ (T : Int)) && decide ((T : Int) ≤ 4)) = true
        rw [decide_eq_true (by omega), decide_eq_true (by omega)]
        rfl
      rw [z] at hn
      cases hn
def spRefused (K : PySem.W.Frag) : Sp := fun vs H Q _ => ∃ (M : Addr → Prop) (x r : V) (d re : PyData) (D : Nat) (dd own other : Int), vs = [x, .int dd, .int own, .int other, r] ∧ dd = D ∧ D ≤ 4 ∧ Dq M K H x d ∧ Dq M K H r re ∧ isNum re 0 4 = false ∧ Q (.bl true) H
theorem ok_refused {C : Addr} {f : Addr} {fd : FuncData} (B : Blt mg) (eBadReach : Err K mg "BadReach" C) (hex : PySem.W.exmOne K (.ref C) (.ref C) = some true) (gis_view : Has P w K mg base (L2.CX P w) 7 "is_view" ["value", "D", "own", "other", "reach"] (spView K C))
    (F : Fun K "_law_refused" "_law_refused" s_law_refused f fd) : FnOk P w K mg base CX0 8 f fd ["value", "colours", "own", "other", "reach"] (spRefused K) := by
  have sc : FnScope ["value", "colours", "own", "other", "reach"] ["value", "colours", "own", "other", "reach"] (defScope s_law_refused) := ⟨rfl, rfl, rfl, by decide +kernel, rfl, by decide +kernel, by decide +kernel⟩
  refine F.ok sc (fun vs H Q E h => ?_) (fun cdv A outer s H vs Q E hr h => ?_)
  · obtain ⟨_, _, _, _, _, _, _, _, _, rfl, _⟩ := h
    rfl
  obtain ⟨M, x, r, d, re, D, dd, own, other, rfl, rfl, hD, hd, hr', hn, k⟩ := h
  refine ⟨_, (pss_cons (ps_try_only rfl rfl ⟨rfl, by decide, .inl eBadReach.g⟩ takes0 (fun W pn xe tk _ =>
      (pss_one (ps_expr (pcS gis_view hr tk (pa_cons (pv 0) (pa_cons (pv 1) (pa_cons (pv 2) (pa_cons (pv 3) (pa_cons (pv 4) pa_nil)))))))))
      (fun _ _ _ _ _ _ _ => (pss_one (ps_ret pe_bl))))
    (pss_one (ps_ret pe_bl))), ?_⟩
  exact ⟨_, rfl, _, rfl, _, rfl, _, rfl, _, rfl, M, x, r, d, re, D, _, _, _, rfl, rfl, hD, hd, hr', .inl ⟨hn, true, hex, fun _ _ _ => k, fun z => nomatch z⟩⟩
end
section
variable {P : Program} {w : World} {K : PySem.W.Frag} {mg : Str → Option Value} {base : Heap}
def spLaw (K : PySem.W.Frag) : Sp := fun vs H Q _ => ∃ (a : Addr) (ns : List Int), vs = [.ref a] ∧ SqL K H a (ns.map V.int) ∧ ns.length ≤ 63 ∧ ∀ H', Q (.bl true) H'
set_option maxHeartbeats 4000000 in
theorem ok_all {C : Addr} {f : Addr} {fd : FuncData} (B : Blt mg) (g_law_draws : Has P w K mg base CX0 1 "_law_draws" ["script", "many"] (spDraws K)) (g_law_take : Has P w K mg base CX0 1 "_law_take" ["hand", "many"] (spTake K))
    (g_law_value : Has P w K mg base CX0 8 "_law_value" ["hand", "colours", "own", "other", "reach"] (spValue K)) (g_law_right : Has P w K mg base CX0 6 "_law_right" ["value", "colours", "own", "other", "reach", "back"] (spLook K 5))
    (gis_view : Has P w K mg base (L2.CX P w) 7 "is_view" ["value", "D", "own", "other", "reach"] (spView K C)) (g_law_refused : Has P w K mg base CX0 8 "_law_refused" ["value", "colours", "own", "other", "reach"] (spRefused K))
    (g_law_drawn : Has P w K mg base CX0 6 "_law_drawn" ["hand", "colours", "own", "other", "reach", "back"] (spDrawn K 5))
    (F : Fun K "_law_all" "_law_all" s_law_all f fd) : FnG P w K mg base 9 f fd ["script"] (spLaw K) := by
  have sc : FnScope ["script", "hand", "k", "view", "answer", "colours", "own", "other", "reach", "value", "kept", "due", "again", "wrong"] ["script"] (defScope s_law_all) := ⟨rfl, rfl, rfl, by decide +kernel, rfl, by decide +kernel, by decide +kernel⟩
  refine FnG.by F sc (fun vs H Q E h => ?_) (fun cdv A outer s H vs Q E hg hr h => ?_)
  · obtain ⟨_, _, rfl, _⟩ := h
    rfl
  obtain ⟨a, ns, rfl, hS, h63, k⟩ := h
  refine ⟨_, (pss_cons (ps_set (i := 1) sc.nd rfl (Or.inl rfl) (pe_lst (pa_cons (pc g_law_draws hr (pa_cons (pv 0) (pa_cons pe_int pa_nil))) (pa_cons pe_int pa_nil))))
    (pss_cons (ps_for PassesOwn.never rfl (pi_range1 (by rfl) B.range (pa_cons pe_int pa_nil)) (pg_name (i := 2) sc.nd rfl (Or.inl rfl))
      (pss_cons (ps_set (i := 5) sc.nd rfl (Or.inl rfl) (pe_op op_add pe_int (pc g_law_take hr (pa_cons (pv 1) (pa_cons pe_int pa_nil)))))
      (pss_cons (ps_set (i := 6) sc.nd rfl (Or.inl rfl) (pe_op op_add pe_int (pc g_law_take hr (pa_cons (pv 1) (pa_cons pe_int pa_nil)))))
      (pss_cons (ps_set (i := 7) sc.nd rfl (Or.inl rfl) (pe_op op_add pe_int (pc g_law_take hr (pa_cons (pv 1) (pa_cons pe_int pa_nil)))))
      (pss_cons (ps_set (i := 8) sc.nd rfl (Or.inl rfl) (pc g_law_take hr (pa_cons (pv 1) (pa_cons (pe_op op_sub (pe_op op_sub pe_int (pe_callTy call_int1 (by rfl) B.int (by decide +kernel) (pa_cons (pe_cmpR op_gt (pv 5) pe_int (nomark _)) pa_nil))) (pe_callTy call_int1 (by rfl) B.int (by decide +kernel) (pa_cons (pe_cmpR op_gt (pv 5) pe_int (nomark _)) pa_nil))) pa_nil))))
      (pss_cons (ps_set (i := 9) sc.nd rfl (Or.inl rfl) (pc g_law_value hr (pa_cons (pv 1) (pa_cons (pv 5) (pa_cons (pv 6) (pa_cons (pv 7) (pa_cons (pv 8) pa_nil)))))))
      (pss_cons (ps_set (i := 10) sc.nd rfl (Or.inl rfl) (pe_callB (call_repV hg hr.units) (by rfl) B.repr (by decide +kernel) (pa_cons (pv 9) pa_nil)))
      (pss_cons (ps_set (i := 11) sc.nd rfl (Or.inl rfl) (pc g_law_right hr (pa_cons (pv 9) (pa_cons (pv 5) (pa_cons (pv 6) (pa_cons (pv 7) (pa_cons (pv 8) (pa_cons pe_int pa_nil))))))))
      (pss_cons (ps_for PassesOwn.never rfl (pi_range1 (by rfl) B.range (pa_cons pe_int pa_nil)) (pg_name (i := 12) sc.nd rfl (Or.inl rfl))
        (pss_cons (ps_set (i := 4) sc.nd rfl (Or.inl rfl) (pcX gis_view hr (pa_cons (pv 9) (pa_cons (pv 5) (pa_cons (pv 6) (pa_cons (pv 7) (pa_cons (pv 8) pa_nil)))))))
        (pss_one (ps_if (PW.pt (pw_or (pt_not (pt_val (pe_callB call_isi (by rfl) B.isinstance (by decide +kernel) (pa_cons (pv 4) (pa_cons (pe_bltn (v := V.ty "bool") (u := Value.type "bool") (by rfl) B.bool (by decide +kernel) rfl) pa_nil))))) (pw_or (pt_cmpR op_ne (pv 4) (pv 11) (nomark _)) (pw_or1 (pt_cmpR op_nes (pe_callB (call_repV hg hr.units) (by rfl) B.repr (by decide +kernel) (pa_cons (pv 9) pa_nil)) (pv 10) (nomark _))))))
          (pss_one (ps_ret pe_bl))
          pss_nil))))
      (pss_cons (ps_set (i := 13) sc.nd rfl (Or.inl rfl) (pe_ix ix_list (pe_lst (pa_cons (pe_un un_neg pe_int) (pa_cons pe_int (pa_cons pe_bl (pa_cons pe_bl (pa_cons pe_non (pa_cons pe_str (pa_cons (pe_op op_pow pe_int pe_int) (pa_cons (pe_tup (pa_cons pe_int pa_nil)) pa_nil))))))))) (pc g_law_take hr (pa_cons (pv 1) (pa_cons pe_int pa_nil))) (fun _ _ => rfl)))
      (pss_one (ps_if (pt_not (pt_val (pc g_law_refused hr (pa_cons (pv 9) (pa_cons (pv 5) (pa_cons (pv 6) (pa_cons (pv 7) (pa_cons (pv 13) pa_nil))))))))
        (pss_one (ps_ret pe_bl))
        pss_nil))))))))))))
    (pss_cons (ps_set (i := 3) sc.nd rfl (Or.inl rfl) (pc g_law_drawn hr (pa_cons (pv 1) (pa_cons pe_int (pa_cons pe_int (pa_cons pe_int (pa_cons pe_int (pa_cons pe_int pa_nil))))))))
    (pss_cons (ps_set (i := 4) sc.nd rfl (Or.inl rfl) (pcX gis_view hr (pa_cons (pv 3) (pa_cons pe_int (pa_cons pe_int (pa_cons pe_int (pa_cons pe_int pa_nil)))))))
    (pss_one (ps_ret (pe_and (pe_callB call_isi (by rfl) B.isinstance (by decide +kernel) (pa_cons (pv 4) (pa_cons (pe_bltn (v := V.ty "bool") (u := Value.type "bool") (by rfl) B.bool (by decide +kernel) rfl) pa_nil))) (pe_one (pv 4))))))))), ?_⟩
  refine ⟨_, rfl, a, ns, 400, rfl, hS, h63, by omega, fun d H1 ds hd0 s1 hd1 hdl hdb => ⟨(by show 2 ≤ sizeLine; decide), fun h hh0 => ?_⟩⟩
  have ndh : d ≠ h := ne_of_none hd1 hh0
  have hH1 : Hand (upd H1 h (.lst [.ref d, .int 0])) h d ds 0 := ⟨upd_same, by rw [upd_ne ndh]; exact hd1⟩
  refine ⟨6, rfl, by decide, by decide, for_range (lo := 0) (n := (6 : Int).toNat) (fun i σ H' => ∃ (n : Nat) (kv av cv ov uv rv xv qv dv gv wv : Option V), σ = [some (.ref a), some (.ref h), kv, none, av, cv, ov, uv, rv, xv, qv, dv, gv, wv] ∧ Hand H' h d ds n)
    ⟨0, none, none, none, none, none, none, none, none, none, none, none, rfl, hH1⟩ ?_ ?_⟩
  · rintro i σ H' hi ⟨n, kv, av, cv, ov, uv, rv, xv, qv, dv, gv, wv, rfl, hh⟩
    refine ⟨_, rfl, h, d, ds, n, 3, rfl, hh.1, hh.2, by omega, by omega, fun c c0 c1 => ⟨_, _, rfl, rfl, ?_⟩⟩
    have hh1 := hh.next
    refine ⟨_, rfl, h, d, ds, _, 4, rfl, hh1.1, hh1.2, by omega, by omega, fun o o0 o1 => ⟨_, _, rfl, rfl, ?_⟩⟩
    have hh2 := hh1.next
    refine ⟨_, rfl, h, d, ds, _, 4, rfl, hh2.1, hh2.2, by omega, by omega, fun u u0 u1 => ⟨_, _, rfl, rfl, ?_⟩⟩
    have hh3 := hh2.next
    refine ⟨_, rfl, _, rfl, _, _, rfl, rfl, .inr ⟨_, rfl, _, _, rfl, rfl, _, rfl, _, _, rfl, rfl, .inr ⟨_, rfl, _, _, rfl, rfl, h, d, ds, _, _, rfl, hh3.1, hh3.2, by split <;> split <;> omega, by split <;> split <;> omega, fun r r0 r1 => ?_⟩⟩⟩
    have r4 : r ≤ 4 := by
      revert r1
      split <;> split <;> intro r1 <;> omega
    have hh4 := hh3.next
    obtain ⟨T, rfl⟩ : ∃ T : Nat, r = (T : Int) := ⟨r.toNat, by omega⟩
    have eD : (2 + c) = (((2 + c).toNat : Nat) : Int) := by omega
    refine ⟨_, rfl, _, rfl, _, rfl, _, rfl, _, rfl, h, d, ds, _, (2 + c).toNat, T, _, _, _, _, rfl, eD, rfl, hh4, by omega, by omega, by omega, by omega, by omega, by omega, by omega, fun v H5 n5 e g5 hh5 hd hs => ?_⟩
    obtain ⟨z1, z2, z3⟩ := hs.rep (by omega) (by omega)
    refine ⟨_, rfl, _, v, e, rfl, hd, z1, z2, z3, ?_⟩
    refine ⟨_, rfl, _, rfl, _, rfl, _, rfl, _, rfl, _, v, e, (2 + c).toNat, T, _, _, _, _, _, rfl, eD, rfl, by omega, by omega, hd, ?_⟩
    refine ⟨2, rfl, by decide, by decide, for_range (lo := 0) (n := (2 : Int).toNat) (fun j σ H' => H' = H5 ∧ ∃ (gv av : Option V), σ = [some (.ref a), some (.ref h), some (.int (0 + (i : Int))), none, av, some (.int (2 + c)), some (.int (1 + o)), some (.int (1 + u)), some (.int (T : Int)), some v, some (.str e.shown), some (.bl (okB (2 + c).toNat T (1 + o) (1 + u) 0 e)), gv, wv])
      ⟨rfl, gv, av, rfl⟩ ?_ ?_⟩
    · rintro j σ H' hj ⟨rfl, gv, av, rfl⟩
      refine ⟨_, rfl, _, rfl, _, rfl, _, rfl, _, rfl, _, v, .int (T : Int), e, .int (T : Int), (2 + c).toNat, _, _, _, rfl, eD, by omega, hd, .data (.int _), .inr ⟨T, rfl, by omega, ?_⟩⟩
      refine ⟨_, rfl, _, _, _, _, true, rfl, ClsV.ty _, TyX.base (TyOf.bl _), kit_ty (by decide +kernel), _, rfl, ?_⟩
      refine iteF ?_
      refine ⟨_, rfl, _, rfl, rfl, _, rfl, ?_⟩
      refine iteNS rfl ?_
      refine ⟨_, rfl, _, v, e, rfl, hd, z1, z2, z3, _, rfl, _, _, rfl, rfl, _, rfl, ?_⟩
      refine iteNS rfl ?_
      exact ⟨rfl, _, _, rfl⟩
    · rintro σ H' ⟨rfl, gv, av, rfl⟩
      refine ⟨_, rfl, _, _, rfl, rfl, ⟨by decide, by decide, by decide⟩, (by show 1 ≤ sizeLine; decide), fun t ht => ⟨(by show 8 ≤ sizeLine; decide), fun l hl => ?_⟩⟩
      have t1 := same_new ht (.tup [.int 2])
      have t2 := same_new hl (.lst [.int (-1), .int 5, .bl true, .bl false, .non, .str "1", .int (10 ^ (30 : Int).toNat), .ref t])
      have hh6 := (hh5.same t1).same t2
      have nl : l ≠ h := (ne_of_none (hh5.same t1).1 hl).symm
      have row : DtAll K _ [.int (-1), .int 5, .bl true, .bl false, .non, .str "1", .int (10 ^ (30 : Int).toNat), .ref t] [.int (-1), .int 5, .bool true, .bool false, .none, .str "1", .int (10 ^ (30 : Int).toNat), .tuple [.int 2]] :=
        .cons (.int _) (.cons (.int _) (.cons (.bl _) (.cons (.bl _) (.cons .non (.cons (.str _) (.cons (.int _) (.cons (.tup (SqT.of (t2 _ _ upd_same)) (.cons (.int 2) .nil)) .nil)))))))
      refine ⟨_, rfl, h, d, ds, _, 8, rfl, hh6.1, hh6.2, by omega, by omega, fun q q0 q1 => ?_⟩
      obtain ⟨y, e', hy, hm, hyd⟩ := (row.stay hh6.tups).pick (i := q) (by show -((8 : Nat) : Int) ≤ q; omega) (by show q < ((8 : Nat) : Int); omega)
      refine ⟨l, _, _, y, rfl, rfl, SqL.of (by rw [upd_ne nl, upd_same]), hy, ?_⟩
      have bad : isNum e' 0 4 = false := by
        simp only [List.mem_cons, List.not_mem_nil, or_false] at hm
        rcases hm with rfl | rfl | rfl | rfl | rfl | rfl | rfl | rfl <;> first | rfl | decide
      have hd6 := hd.stay ((t1.trans t2).go.trans hh6.go)
      refine ⟨_, rfl, _, rfl, _, rfl, _, rfl, _, rfl, _, v, y, e, e', (2 + c).toNat, _, _, _, rfl, eD, by omega, hd6, .data hyd.dv, bad, true, rfl, iteF ?_⟩
      exact ⟨_, _, _, _, _, _, _, _, _, _, _, _, rfl, hh6.next⟩
  · rintro σ H' ⟨n, kv, av, cv, ov, uv, rv, xv, qv, dv, gv, wv, rfl, hh⟩
    refine ⟨_, rfl, h, d, ds, n, 2, 4, _, _, _, _, _, rfl, rfl, rfl, hh, by omega, by omega, by omega, by omega, by omega, by omega, fun p H2 k2 e g2 hh2 hd he => ?_⟩
    refine ⟨_, rfl, (· = h), .ref p, .int 4, e, .int 4, 2, _, _, _, rfl, rfl, by omega, .data hd.dv, .data (.int 4), .inr ⟨4, rfl, by omega, ?_⟩⟩
    rw [he]
    refine ⟨_, rfl, _, _, _, _, true, rfl, ClsV.ty _, TyX.base (TyOf.bl _), kit_ty (by decide +kernel), true, rfl, iteT ?_⟩
    exact ⟨_, rfl, k _⟩
theorem ok_law {C : Addr} {f : Addr} {fd : FuncData} (B : Blt mg) (eLookError : Err K mg "LookError" C) (g_law_all : HasG P w K mg base 9 "_law_all" ["script"] (spLaw K)) (F : Fun K "law" "law" slaw f fd) : FnG P w K mg base 10 f fd ["script"] (spLaw K) := by
  have sc : FnScope ["script"] ["script"] (defScope slaw) := ⟨rfl, rfl, rfl, by decide +kernel, rfl, by decide +kernel, by decide +kernel⟩
  refine FnG.by F sc (fun vs H Q E h => ?_) (fun cdv A outer s H vs Q E hg hr h => ?_)
  · obtain ⟨_, _, rfl, _⟩ := h
    rfl
  obtain ⟨a, ns, rfl, hS, h63, k⟩ := h
  refine ⟨_, (pss_one (ps_try_only rfl rfl ⟨rfl, by decide, .inl eLookError.g⟩ takes0 (fun W pn xe tk _ =>
      (pss_one (ps_ret (pcG g_law_all hg hr (pa_cons (pv 0) pa_nil)))))
      (fun _ _ _ _ _ _ _ => (pss_one (ps_ret pe_bl))))), ?_⟩
  exact ⟨_, rfl, a, ns, rfl, hS, h63, fun H' => k H'⟩
end
/-! ### the top: the defs stand there as the text says -/
theorem def_mk {K : PySem.W.Frag} {h : Heap} {mg : Str → Option Value} {x : Str} {st : Stmt} {ps : List Str} {f : Addr} {od an : Option Addr} {sl : Array (Option Value)} {oc kV dc pm cd ct : Value} (X : K.In h) (G : h.Ns mainGlobals mg)
    (a : PySem.W.nsIn K mainGlobals x = some (some (.ref f))) (l : K.lookup f = some ⟨oc, od, .func (PySem.W.fnOf x x (defArgs st) (defBody st) (defScope st) .none kV dc pm an cd ct), sl⟩) (c : PySem.W.codeIn K cd x = true) (k : PySem.W.keepIn K (.ref f) = true)
    (b : ∀ (kV doc pm : Value) (an : Option Addr) (cdv ct : Value) (us : List Value), us.length = ps.length → bindArgs (PySem.W.fnOf x x (defArgs st) (defBody st) (defScope st) .none kV doc pm an cdv ct) ⟨us, []⟩ = pure (ps.zip us)) : Def K mg x st ps :=
  ⟨f, _, fun_mk l c k, PySem.W.mg_of X G a, (fun_mk l c k).binds b⟩
theorem all_mk {l : PySem.W.OpenLaw} {w : World} {K : PySem.W.Frag} {h : Heap} {mg : Str → Option Value} {fa f4 f5 f9 f10 f12 f13 f14 f15 f16 f17 f18 f19 f20 f21 f22 CBadReach CLookError : Addr} (X : K.In h) (G : h.Ns mainGlobals mg) (hfa : mg "law" = some (.ref fa))
    {od4 an4 od5 an5 od9 an9 od10 an10 od12 an12 od13 an13 od14 an14 od15 an15 od16 an16 od17 an17 od18 an18 od19 an19 od20 an20 od21 an21 od22 an22 : Option Addr} {sl4 sl5 sl9 sl10 sl12 sl13 sl14 sl15 sl16 sl17 sl18 sl19 sl20 sl21 sl22 : Array (Option Value)} {oc4 kV4 dc4 pm4 cd4 ct4 oc5 kV5 dc5 pm5 cd5 ct5 oc9 kV9 dc9 pm9 cd9 ct9 oc10 kV10 dc10 pm10 cd10 ct10 oc12 kV12 dc12 pm12 cd12 ct12 oc13 kV13 dc13 pm13 cd13 ct13 oc14 kV14 dc14 pm14 cd14 ct14 oc15 kV15 dc15 pm15 cd15 ct15 oc16 kV16 dc16 pm16 cd16 ct16 oc17 kV17 dc17 pm17 cd17 ct17 oc18 kV18 dc18 pm18 cd18 ct18 oc19 kV19 dc19 pm19 cd19 ct19 oc20 kV20 dc20 pm20 cd20 ct20 oc21 kV21 dc21 pm21 cd21 ct21 oc22 kV22 dc22 pm22 cd22 ct22 : Value}
    (a4 : PySem.W.nsIn K mainGlobals "is_number" = some (some (.ref f4))) (l4 : K.lookup f4 = some ⟨oc4, od4, .func (PySem.W.fnOf "is_number" "is_number" (defArgs sis_number) (defBody sis_number) (defScope sis_number) .none kV4 dc4 pm4 an4 cd4 ct4), sl4⟩) (c4 : PySem.W.codeIn K cd4 "is_number" = true) (k4 : PySem.W.keepIn K (.ref f4) = true)
    (a5 : PySem.W.nsIn K mainGlobals "check_reach" = some (some (.ref f5))) (l5 : K.lookup f5 = some ⟨oc5, od5, .func (PySem.W.fnOf "check_reach" "check_reach" (defArgs scheck_reach) (defBody scheck_reach) (defScope scheck_reach) .none kV5 dc5 pm5 an5 cd5 ct5), sl5⟩) (c5 : PySem.W.codeIn K cd5 "check_reach" = true) (k5 : PySem.W.keepIn K (.ref f5) = true)
    (a9 : PySem.W.nsIn K mainGlobals "is_view" = some (some (.ref f9))) (l9 : K.lookup f9 = some ⟨oc9, od9, .func (PySem.W.fnOf "is_view" "is_view" (defArgs sis_view) (defBody sis_view) (defScope sis_view) .none kV9 dc9 pm9 an9 cd9 ct9), sl9⟩) (c9 : PySem.W.codeIn K cd9 "is_view" = true) (k9 : PySem.W.keepIn K (.ref f9) = true)
    (a10 : PySem.W.nsIn K mainGlobals "_is_branch" = some (some (.ref f10))) (l10 : K.lookup f10 = some ⟨oc10, od10, .func (PySem.W.fnOf "_is_branch" "_is_branch" (defArgs s_is_branch) (defBody s_is_branch) (defScope s_is_branch) .none kV10 dc10 pm10 an10 cd10 ct10), sl10⟩) (c10 : PySem.W.codeIn K cd10 "_is_branch" = true) (k10 : PySem.W.keepIn K (.ref f10) = true)
    (a12 : PySem.W.nsIn K mainGlobals "_law_draws" = some (some (.ref f12))) (l12 : K.lookup f12 = some ⟨oc12, od12, .func (PySem.W.fnOf "_law_draws" "_law_draws" (defArgs s_law_draws) (defBody s_law_draws) (defScope s_law_draws) .none kV12 dc12 pm12 an12 cd12 ct12), sl12⟩) (c12 : PySem.W.codeIn K cd12 "_law_draws" = true) (k12 : PySem.W.keepIn K (.ref f12) = true)
    (a13 : PySem.W.nsIn K mainGlobals "_law_take" = some (some (.ref f13))) (l13 : K.lookup f13 = some ⟨oc13, od13, .func (PySem.W.fnOf "_law_take" "_law_take" (defArgs s_law_take) (defBody s_law_take) (defScope s_law_take) .none kV13 dc13 pm13 an13 cd13 ct13), sl13⟩) (c13 : PySem.W.codeIn K cd13 "_law_take" = true) (k13 : PySem.W.keepIn K (.ref f13) = true)
    (a14 : PySem.W.nsIn K mainGlobals "_law_integer" = some (some (.ref f14))) (l14 : K.lookup f14 = some ⟨oc14, od14, .func (PySem.W.fnOf "_law_integer" "_law_integer" (defArgs s_law_integer) (defBody s_law_integer) (defScope s_law_integer) .none kV14 dc14 pm14 an14 cd14 ct14), sl14⟩) (c14 : PySem.W.codeIn K cd14 "_law_integer" = true) (k14 : PySem.W.keepIn K (.ref f14) = true)
    (a15 : PySem.W.nsIn K mainGlobals "_law_drawn" = some (some (.ref f15))) (l15 : K.lookup f15 = some ⟨oc15, od15, .func (PySem.W.fnOf "_law_drawn" "_law_drawn" (defArgs s_law_drawn) (defBody s_law_drawn) (defScope s_law_drawn) .none kV15 dc15 pm15 an15 cd15 ct15), sl15⟩) (c15 : PySem.W.codeIn K cd15 "_law_drawn" = true) (k15 : PySem.W.keepIn K (.ref f15) = true)
    (a16 : PySem.W.nsIn K mainGlobals "_law_right" = some (some (.ref f16))) (l16 : K.lookup f16 = some ⟨oc16, od16, .func (PySem.W.fnOf "_law_right" "_law_right" (defArgs s_law_right) (defBody s_law_right) (defScope s_law_right) .none kV16 dc16 pm16 an16 cd16 ct16), sl16⟩) (c16 : PySem.W.codeIn K cd16 "_law_right" = true) (k16 : PySem.W.keepIn K (.ref f16) = true)
    (a17 : PySem.W.nsIn K mainGlobals "_law_here" = some (some (.ref f17))) (l17 : K.lookup f17 = some ⟨oc17, od17, .func (PySem.W.fnOf "_law_here" "_law_here" (defArgs s_law_here) (defBody s_law_here) (defScope s_law_here) .none kV17 dc17 pm17 an17 cd17 ct17), sl17⟩) (c17 : PySem.W.codeIn K cd17 "_law_here" = true) (k17 : PySem.W.keepIn K (.ref f17) = true)
    (a18 : PySem.W.nsIn K mainGlobals "_law_changed" = some (some (.ref f18))) (l18 : K.lookup f18 = some ⟨oc18, od18, .func (PySem.W.fnOf "_law_changed" "_law_changed" (defArgs s_law_changed) (defBody s_law_changed) (defScope s_law_changed) .none kV18 dc18 pm18 an18 cd18 ct18), sl18⟩) (c18 : PySem.W.codeIn K cd18 "_law_changed" = true) (k18 : PySem.W.keepIn K (.ref f18) = true)
    (a19 : PySem.W.nsIn K mainGlobals "_law_value" = some (some (.ref f19))) (l19 : K.lookup f19 = some ⟨oc19, od19, .func (PySem.W.fnOf "_law_value" "_law_value" (defArgs s_law_value) (defBody s_law_value) (defScope s_law_value) .none kV19 dc19 pm19 an19 cd19 ct19), sl19⟩) (c19 : PySem.W.codeIn K cd19 "_law_value" = true) (k19 : PySem.W.keepIn K (.ref f19) = true)
    (a20 : PySem.W.nsIn K mainGlobals "_law_refused" = some (some (.ref f20))) (l20 : K.lookup f20 = some ⟨oc20, od20, .func (PySem.W.fnOf "_law_refused" "_law_refused" (defArgs s_law_refused) (defBody s_law_refused) (defScope s_law_refused) .none kV20 dc20 pm20 an20 cd20 ct20), sl20⟩) (c20 : PySem.W.codeIn K cd20 "_law_refused" = true) (k20 : PySem.W.keepIn K (.ref f20) = true)
    (a21 : PySem.W.nsIn K mainGlobals "_law_all" = some (some (.ref f21))) (l21 : K.lookup f21 = some ⟨oc21, od21, .func (PySem.W.fnOf "_law_all" "_law_all" (defArgs s_law_all) (defBody s_law_all) (defScope s_law_all) .none kV21 dc21 pm21 an21 cd21 ct21), sl21⟩) (c21 : PySem.W.codeIn K cd21 "_law_all" = true) (k21 : PySem.W.keepIn K (.ref f21) = true)
    (a22 : PySem.W.nsIn K mainGlobals "law" = some (some (.ref f22))) (l22 : K.lookup f22 = some ⟨oc22, od22, .func (PySem.W.fnOf "law" "law" (defArgs slaw) (defBody slaw) (defScope slaw) .none kV22 dc22 pm22 an22 cd22 ct22), sl22⟩) (c22 : PySem.W.codeIn K cd22 "law" = true) (k22 : PySem.W.keepIn K (.ref f22) = true)
    (gBadReach : PySem.W.nsIn K mainGlobals "BadReach" = some (some (.ref CBadReach))) (xBadReach : PySem.W.excIn K CBadReach [.type "ValueError", .type "Exception", .type "BaseException", .type "object"] "ValueError.__new__" = true) (kBadReach : PySem.W.keepIn K (.ref CBadReach) = true) (bBadReach : PySem.W.subIn K (.ref CBadReach) (.type "BaseException") = some true) (tBadReach : PySem.W.typeIn K (.ref CBadReach) = some (.type "type")) (iBadReach : PySem.W.isClsIn K CBadReach = true)
    (gLookError : PySem.W.nsIn K mainGlobals "LookError" = some (some (.ref CLookError))) (xLookError : PySem.W.excIn K CLookError [.type "ValueError", .type "Exception", .type "BaseException", .type "object"] "ValueError.__new__" = true) (kLookError : PySem.W.keepIn K (.ref CLookError) = true) (bLookError : PySem.W.subIn K (.ref CLookError) (.type "BaseException") = some true) (tLookError : PySem.W.typeIn K (.ref CLookError) = some (.type "type")) (iLookError : PySem.W.isClsIn K CLookError = true)
    (sBadReachBadReach : PySem.W.subIn K (.ref CBadReach) (.ref CBadReach) = some true)
    (zabs : PySem.W.nsIn K mainGlobals "abs" = some none)
    (zint : PySem.W.nsIn K mainGlobals "int" = some none)
    (zlen : PySem.W.nsIn K mainGlobals "len" = some none)
    (zrange : PySem.W.nsIn K mainGlobals "range" = some none)
    (ztuple : PySem.W.nsIn K mainGlobals "tuple" = some none)
    (zisinstance : PySem.W.nsIn K mainGlobals "isinstance" = some none)
    (zbool : PySem.W.nsIn K mainGlobals "bool" = some none)
    (zrepr : PySem.W.nsIn K mainGlobals "repr" = some none)
    (zlist : PySem.W.nsIn K mainGlobals "list" = some none)
    (zmax : PySem.W.nsIn K mainGlobals "max" = some none)
    {tkMOST_REACH : Tok} (qMOST_REACH : PySem.W.nsIn K mainGlobals "MOST_REACH" = some (some (.int 4 tkMOST_REACH)))
    {tkNO_COLOUR : Tok} (qNO_COLOUR : PySem.W.nsIn K mainGlobals "NO_COLOUR" = some (some (.int 0 tkNO_COLOUR))) :
    ∃ fd : FuncData, (∀ (s : Shared) (v : Value), BindsTo s fd ⟨[v], []⟩ [("script", v)]) ∧ ∀ base : Heap, K.In base → base.Ns mainGlobals mg → FnG l.prog w K mg base 10 fa fd ["script"] (spLaw K) := by
  have e := hfa.symm.trans (PySem.W.mg_of X G a22)
  cases e
  have B : Blt mg := ⟨PySem.W.mg_none_of X G zabs, PySem.W.mg_none_of X G zint, PySem.W.mg_none_of X G zlen, PySem.W.mg_none_of X G zrange, PySem.W.mg_none_of X G ztuple, PySem.W.mg_none_of X G zisinstance, PySem.W.mg_none_of X G zbool, PySem.W.mg_none_of X G zrepr, PySem.W.mg_none_of X G zlist, PySem.W.mg_none_of X G zmax⟩
  have T : Cst mg := ⟨⟨_, PySem.W.mg_of X G qMOST_REACH⟩, ⟨_, PySem.W.mg_of X G qNO_COLOUR⟩⟩
  have eBadReach : Err K mg "BadReach" CBadReach := ⟨xBadReach, PySem.W.mg_of X G gBadReach, kBadReach, bBadReach, tBadReach⟩
  have eLookError : Err K mg "LookError" CLookError := ⟨xLookError, PySem.W.mg_of X G gLookError, kLookError, bLookError, tLookError⟩
  have hBadReachBadReach := exm_of2 bBadReach iBadReach tBadReach sBadReachBadReach
  have dis_number : Def K mg "is_number" sis_number ["value", "low", "high"] := def_mk X G a4 l4 c4 k4 fun _ _ _ _ _ _ us hl => match us, hl with | [_, _, _], _ => rfl
  have dcheck_reach : Def K mg "check_reach" scheck_reach ["reach", "low", "high"] := def_mk X G a5 l5 c5 k5 fun _ _ _ _ _ _ us hl => match us, hl with | [_, _, _], _ => rfl
  have dis_view : Def K mg "is_view" sis_view ["value", "D", "own", "other", "reach"] := def_mk X G a9 l9 c9 k9 fun _ _ _ _ _ _ us hl => match us, hl with | [_, _, _, _, _], _ => rfl
  have d_is_branch : Def K mg "_is_branch" s_is_branch ["value", "D", "own", "other", "reach", "colour"] := def_mk X G a10 l10 c10 k10 fun _ _ _ _ _ _ us hl => match us, hl with | [_, _, _, _, _, _], _ => rfl
  have d_law_draws : Def K mg "_law_draws" s_law_draws ["script", "many"] := def_mk X G a12 l12 c12 k12 fun _ _ _ _ _ _ us hl => match us, hl with | [_, _], _ => rfl
  have d_law_take : Def K mg "_law_take" s_law_take ["hand", "many"] := def_mk X G a13 l13 c13 k13 fun _ _ _ _ _ _ us hl => match us, hl with | [_, _], _ => rfl
  have d_law_integer : Def K mg "_law_integer" s_law_integer ["value"] := def_mk X G a14 l14 c14 k14 fun _ _ _ _ _ _ us hl => match us, hl with | [_], _ => rfl
  have d_law_drawn : Def K mg "_law_drawn" s_law_drawn ["hand", "colours", "own", "other", "reach", "back"] := def_mk X G a15 l15 c15 k15 fun _ _ _ _ _ _ us hl => match us, hl with | [_, _, _, _, _, _], _ => rfl
  have d_law_right : Def K mg "_law_right" s_law_right ["value", "colours", "own", "other", "reach", "back"] := def_mk X G a16 l16 c16 k16 fun _ _ _ _ _ _ us hl => match us, hl with | [_, _, _, _, _, _], _ => rfl
  have d_law_here : Def K mg "_law_here" s_law_here ["hand", "value", "own"] := def_mk X G a17 l17 c17 k17 fun _ _ _ _ _ _ us hl => match us, hl with | [_, _, _], _ => rfl
  have d_law_changed : Def K mg "_law_changed" s_law_changed ["hand", "value", "own", "other", "depth"] := def_mk X G a18 l18 c18 k18 fun _ _ _ _ _ _ us hl => match us, hl with | [_, _, _, _, _], _ => rfl
  have d_law_value : Def K mg "_law_value" s_law_value ["hand", "colours", "own", "other", "reach"] := def_mk X G a19 l19 c19 k19 fun _ _ _ _ _ _ us hl => match us, hl with | [_, _, _, _, _], _ => rfl
  have d_law_refused : Def K mg "_law_refused" s_law_refused ["value", "colours", "own", "other", "reach"] := def_mk X G a20 l20 c20 k20 fun _ _ _ _ _ _ us hl => match us, hl with | [_, _, _, _, _], _ => rfl
  have d_law_all : Def K mg "_law_all" s_law_all ["script"] := def_mk X G a21 l21 c21 k21 fun _ _ _ _ _ _ us hl => match us, hl with | [_], _ => rfl
  refine ⟨PySem.W.fnOf "law" "law" (defArgs slaw) (defBody slaw) (defScope slaw) .none kV22 dc22 pm22 an22 cd22 ct22, fun s v => .of_eq rfl, fun base _ _ => ?_⟩
  have gtake : Has l.prog w K mg base CX0 1 "_law_take" ["hand", "many"] (spTake K) := d_law_take.has fun f fd F => ok_take B F
  have gdraws : Has l.prog w K mg base CX0 1 "_law_draws" ["script", "many"] (spDraws K) := d_law_draws.has fun f fd F => ok_draws B F
  have gnum : Has l.prog w K mg base CX0 1 "is_number" ["value", "low", "high"] (spNumber K) := dis_number.has fun f fd F => ok_number B F
  have gisb := has_isb (P := l.prog) (w := w) (base := base) B d_is_branch gnum 5
  have gint : Has l.prog w K mg base CX0 1 "_law_integer" ["value"] (spInteger K) := d_law_integer.has fun f fd F => ok_integer B F
  have gright := has_right (P := l.prog) (w := w) (base := base) B d_law_right gint 5
  have gdrawn := has_drawn (P := l.prog) (w := w) (base := base) B d_law_drawn gtake 5
  have ghere : Has l.prog w K mg base CX0 2 "_law_here" ["hand", "value", "own"] (spHere K) := d_law_here.has fun f fd F => ok_here B gtake F
  have gchanged := has_changed (P := l.prog) (w := w) (base := base) B d_law_changed gtake ghere 5
  have gvalue : Has l.prog w K mg base CX0 8 "_law_value" ["hand", "colours", "own", "other", "reach"] (spValue K) := d_law_value.has fun f fd F => ok_value B gtake gdrawn gchanged F
  have gcheck : Has l.prog w K mg base (L2.CX l.prog w) 2 "check_reach" ["reach", "low", "high"] (spCheck K CBadReach) := dcheck_reach.has fun f fd F => ok_check B eBadReach gnum F
  have gview : Has l.prog w K mg base (L2.CX l.prog w) 7 "is_view" ["value", "D", "own", "other", "reach"] (spView K CBadReach) := dis_view.has fun f fd F => ok_view B T gcheck gisb F
  have gref : Has l.prog w K mg base CX0 8 "_law_refused" ["value", "colours", "own", "other", "reach"] (spRefused K) := d_law_refused.has fun f fd F => ok_refused B eBadReach hBadReachBadReach gview F
  have gall : HasG l.prog w K mg base 9 "_law_all" ["script"] (spLaw K) := d_law_all.hasG fun f fd F => ok_all B gdraws gtake gvalue gright gview gref gdrawn F
  exact ok_law B eLookError gall (fun_mk l22 c22 k22)
end Lw
open PySem PySem.W PyProof.Rows
set_option maxRecDepth 100000 in
set_option maxHeartbeats 0 in
theorem PySem.Challenge.cw_looksfar_k06_is_view_holds : PySem.Challenge.rw_looksfar_k06_is_view.Holds := by
  w_on; o_law; k_head; (case hw => w_witness2)
  k_fill
  refine LG.walk_G (l := PySem.Challenge.rw_looksfar_k06_is_view) (n := 63) (k := 10) (sp := Lw.spLaw) (x := "script") rfl (by decide) rfl ⟨rfl, by decide, by decide⟩ (fun w h Y => PySem.W.kIn_of Y) ?F (fun K H a ns hl _ hS => ⟨a, ns, rfl, hS, hl, fun _ => rfl⟩)
  case F =>
    intro w mg fa h KX G hmg
    refine' Lw.all_mk KX G hmg ?a4 ?l4 ?c4 ?k4 ?a5 ?l5 ?c5 ?k5 ?a9 ?l9 ?c9 ?k9 ?a10 ?l10 ?c10 ?k10 ?a12 ?l12 ?c12 ?k12 ?a13 ?l13 ?c13 ?k13 ?a14 ?l14 ?c14 ?k14 ?a15 ?l15 ?c15 ?k15 ?a16 ?l16 ?c16 ?k16 ?a17 ?l17 ?c17 ?k17 ?a18 ?l18 ?c18 ?k18 ?a19 ?l19 ?c19 ?k19 ?a20 ?l20 ?c20 ?k20 ?a21 ?l21 ?c21 ?k21 ?a22 ?l22 ?c22 ?k22 ?gBadReach ?xBadReach ?kBadReach ?bBadReach ?tBadReach ?iBadReach ?gLookError ?xLookError ?kLookError ?bLookError ?tLookError ?iLookError ?sBadReachBadReach ?zabs ?zint ?zlen ?zrange ?ztuple ?zisinstance ?zbool ?zrepr ?zlist ?zmax ?qMOST_REACH ?qNO_COLOUR
    (case a4 => k_is)
    (case l4 => k_is)
    (case c4 => k_is)
    (case k4 => k_is)
    (case a5 => k_is)
    (case l5 => k_is)
    (case c5 => k_is)
    (case k5 => k_is)
    (case a9 => k_is)
    (case l9 => k_is)
    (case c9 => k_is)
    (case k9 => k_is)
    (case a10 => k_is)
    (case l10 => k_is)
    (case c10 => k_is)
    (case k10 => k_is)
    (case a12 => k_is)
    (case l12 => k_is)
    (case c12 => k_is)
    (case k12 => k_is)
    (case a13 => k_is)
    (case l13 => k_is)
    (case c13 => k_is)
    (case k13 => k_is)
    (case a14 => k_is)
    (case l14 => k_is)
    (case c14 => k_is)
    (case k14 => k_is)
    (case a15 => k_is)
    (case l15 => k_is)
    (case c15 => k_is)
    (case k15 => k_is)
    (case a16 => k_is)
    (case l16 => k_is)
    (case c16 => k_is)
    (case k16 => k_is)
    (case a17 => k_is)
    (case l17 => k_is)
    (case c17 => k_is)
    (case k17 => k_is)
    (case a18 => k_is)
    (case l18 => k_is)
    (case c18 => k_is)
    (case k18 => k_is)
    (case a19 => k_is)
    (case l19 => k_is)
    (case c19 => k_is)
    (case k19 => k_is)
    (case a20 => k_is)
    (case l20 => k_is)
    (case c20 => k_is)
    (case k20 => k_is)
    (case a21 => k_is)
    (case l21 => k_is)
    (case c21 => k_is)
    (case k21 => k_is)
    (case a22 => k_is)
    (case l22 => k_is)
    (case c22 => k_is)
    (case k22 => k_is)
    (case gBadReach => k_is)
    (case xBadReach => k_exc)
    (case kBadReach => k_is)
    (case bBadReach => k_is)
    (case tBadReach => k_is)
    (case iBadReach => k_is)
    (case gLookError => k_is)
    (case xLookError => k_exc)
    (case kLookError => k_is)
    (case bLookError => k_is)
    (case tLookError => k_is)
    (case iLookError => k_is)
    (case sBadReachBadReach => first | rfl | k_is)
    (case zabs => k_is)
    (case zint => k_is)
    (case zlen => k_is)
    (case zrange => k_is)
    (case ztuple => k_is)
    (case zisinstance => k_is)
    (case zbool => k_is)
    (case zrepr => k_is)
    (case zlist => k_is)
    (case zmax => k_is)
    (case qMOST_REACH => k_is)
    (case qNO_COLOUR => k_is)
