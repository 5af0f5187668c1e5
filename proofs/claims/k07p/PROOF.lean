import PyProof.Rows.All
import HandS.ForExc
import HandS.ForMost
import HandS.Wide
import HandS.Zip
import HandS.IsInst
import HandS.WideMore
import HandS.WideBits
import KE.GoesMore
import KE.GoesEnum
import HandS.NoneIn
import PySem.Challenge.RW_signedpacts_k07_combine_and_keeps
set_option Elab.async false
set_option linter.all false
set_option maxRecDepth 100000
/-! The data layer: what a def does, told over plain data (no heap in what is read). -/
namespace DL
open PySem PySem.Spec L2

/-- plain data that never changes -/
inductive P where
  | non | bl (b : Bool) | int (i : Int) | str (s : Str) | ob (a : Addr) | ty (n : String)
  | lst (xs : List P) | rol (xs : List P) | tup (xs : List P) | ins (C : Addr) (fs : List (Str × P))
/-- what a slot of a def holds: plain data, or a list that is the slot's own -/
inductive D where
  | sh (p : P) | ol (ps : List P) | oll (pss : List (List P))

def Ex (B H : Hp) : Prop := ∀ a o, B a = some o → H a = some o
theorem Ex.refl (H : Hp) : Ex H H := fun _ _ h => h
theorem Ex.trans {H H1 H2 : Hp} (a : Ex H H1) (b : Ex H1 H2) : Ex H H2 := fun x o h => b x o (a x o h)
theorem Ex.rd {H H' : Hp} {a : Addr} {u : HO} (e : Ex H H') (h : Rd H a u) : Rd H' a u := by
  rcases h with h | ⟨o, h⟩
  · exact Or.inl (e a _ h)
  · exact Or.inr ⟨o, e a _ h⟩
theorem Ex.sqL {K : PySem.W.Frag} {H H' : Hp} {a : Addr} {xs : List V} (e : Ex H H') (h : SqL K H a xs) : SqL K H' a xs := by
  rcases h with h | h
  · exact Or.inl (e.rd h)
  · exact Or.inr h
theorem Ex.sqT {K : PySem.W.Frag} {H H' : Hp} {a : Addr} {xs : List V} (e : Ex H H') (h : SqT K H a xs) : SqT K H' a xs := by
  rcases h with h | h
  · exact Or.inl (e.rd h)
  · exact Or.inr h
theorem Ex.back {H H' : Hp} {p : Addr} (e : Ex H H') (h : H' p = none) : H p = none := by
  cases h1 : H p with
  | none => rfl
  | some o => rw [e p o h1] at h; cases h

/-! ### how data lies in the heap -/
section
variable (K : PySem.W.Frag) (B : Hp)
mutual
/-- v is the datum, by what stands in B -/
def Rp : P → V → Prop
  | .non, v => v = .non
  | .bl b, v => v = .bl b
  | .int i, v => v = .int i
  | .str s, v => v = .str s
  | .ob a, v => v = .ref a
  | .ty n, v => v = .ty n
  | .lst xs, v => ∃ a vs, v = .ref a ∧ B a = some (.lst vs) ∧ RpA xs vs
  | .rol xs, v => ∃ a vs, v = .ref a ∧ SqL K B a vs ∧ RpA xs vs
  | .tup xs, v => ∃ a vs, v = .ref a ∧ SqT K B a vs ∧ RpA xs vs
  | .ins C fs, v => ∃ a dx fv, v = .ref a ∧ B a = some (.ins C dx fv) ∧ RpF fs fv
def RpA : List P → List V → Prop
  | [], vs => vs = []
  | p :: ps, vs => ∃ v r, vs = v :: r ∧ Rp p v ∧ RpA ps r
def RpF : List (Str × P) → List (Str × V) → Prop
  | [], vs => vs = []
  | (n, p) :: ps, vs => ∃ v r, vs = (n, v) :: r ∧ Rp p v ∧ RpF ps r
end
end
section
variable {K : PySem.W.Frag} {B B' H : Hp}
mutual
theorem Rp.mono (e : Ex B B') : ∀ (p : P) {v : V}, Rp K B p v → Rp K B' p v
  | .non, _, h => h
  | .bl _, _, h => h
  | .int _, _, h => h
  | .str _, _, h => h
  | .ob _, _, h => h
  | .ty _, _, h => h
  | .lst xs, _, ⟨a, vs, e1, e2, e3⟩ => ⟨a, vs, e1, e a _ e2, RpA.mono e xs e3⟩
  | .rol xs, _, ⟨a, vs, e1, e2, e3⟩ => ⟨a, vs, e1, e.sqL e2, RpA.mono e xs e3⟩
  | .tup xs, _, ⟨a, vs, e1, e2, e3⟩ => ⟨a, vs, e1, e.sqT e2, RpA.mono e xs e3⟩
  | .ins C fs, _, ⟨a, dx, fv, e1, e2, e3⟩ => ⟨a, dx, fv, e1, e a _ e2, RpF.mono e fs e3⟩
theorem RpA.mono (e : Ex B B') : ∀ (ps : List P) {vs : List V}, RpA K B ps vs → RpA K B' ps vs
  | [], _, h => h
  | p :: ps, _, ⟨v, r, e1, e2, e3⟩ => ⟨v, r, e1, Rp.mono e p e2, RpA.mono e ps e3⟩
theorem RpF.mono (e : Ex B B') : ∀ (ps : List (Str × P)) {vs : List (Str × V)}, RpF K B ps vs → RpF K B' ps vs
  | [], _, h => h
  | (_, p) :: ps, _, ⟨v, r, e1, e2, e3⟩ => ⟨v, r, e1, Rp.mono e p e2, RpF.mono e ps e3⟩
end
theorem RpA.length : ∀ {ps : List P} {vs : List V}, RpA K B ps vs → vs.length = ps.length
  | [], _, h => by rw [show _ = [] from h]; rfl
  | p :: ps, _, ⟨v, r, e1, _, e3⟩ => by rw [e1, List.length_cons, List.length_cons, RpA.length e3]
theorem RpA.get : ∀ {ps : List P} {vs : List V} {i : Nat} {p : P}, RpA K B ps vs → ps[i]? = some p → ∃ v, vs[i]? = some v ∧ Rp K B p v
  | [], _, _, _, _, h => by simp at h
  | p :: ps, _, 0, q, ⟨v, r, e1, e2, e3⟩, h => by
    have e : p = q := Option.some.inj h
    subst e
    exact ⟨v, by rw [e1]; rfl, e2⟩
  | p :: ps, _, i + 1, q, ⟨v, r, e1, e2, e3⟩, h => by
    obtain ⟨u, h1, h2⟩ := RpA.get (i := i) (p := q) e3 h
    exact ⟨u, by rw [e1]; exact h1, h2⟩
theorem RpA.append : ∀ {ps qs : List P} {vs ws : List V}, RpA K B ps vs → RpA K B qs ws → RpA K B (ps ++ qs) (vs ++ ws)
  | [], _, _, _, h, g => by rw [show _ = [] from h]; exact g
  | p :: ps, qs, _, ws, ⟨v, r, e1, e2, e3⟩, g => ⟨v, r ++ ws, by rw [e1]; rfl, e2, RpA.append e3 g⟩
theorem RpA.one {p : P} {v : V} (h : Rp K B p v) : RpA K B [p] [v] := ⟨v, [], rfl, h, rfl⟩
theorem RpA.set : ∀ {ps : List P} {vs : List V} {i : Nat} {p : P} {v : V}, RpA K B ps vs → Rp K B p v → RpA K B (ps.set i p) (vs.set i v)
  | [], _, _, _, _, h, _ => by rw [show _ = [] from h]; rfl
  | p :: ps, _, 0, q, u, ⟨v, r, e1, e2, e3⟩, h => by rw [e1]; exact ⟨u, r, rfl, h, e3⟩
  | p :: ps, _, i + 1, q, u, ⟨v, r, e1, e2, e3⟩, h => by rw [e1]; exact ⟨v, r.set i u, rfl, e2, RpA.set e3 h⟩
theorem RpA.take : ∀ {ps : List P} {vs : List V} (n : Nat), RpA K B ps vs → RpA K B (ps.take n) (vs.take n)
  | _, _, 0, _ => by simp [RpA]
  | [], _, n + 1, h => by rw [show _ = [] from h]; rfl
  | p :: ps, _, n + 1, ⟨v, r, e1, e2, e3⟩ => by rw [e1]; exact ⟨v, r.take n, rfl, e2, RpA.take n e3⟩
theorem RpA.drop : ∀ {ps : List P} {vs : List V} (n : Nat), RpA K B ps vs → RpA K B (ps.drop n) (vs.drop n)
  | _, _, 0, h => h
  | [], _, n + 1, h => by rw [show _ = [] from h]; rfl
  | p :: ps, _, n + 1, ⟨v, r, e1, e2, e3⟩ => by rw [e1]; exact RpA.drop n e3
theorem RpA.reverse : ∀ {ps : List P} {vs : List V}, RpA K B ps vs → RpA K B ps.reverse vs.reverse
  | [], _, h => by rw [show _ = [] from h]; rfl
  | p :: ps, _, ⟨v, r, e1, e2, e3⟩ => by
    rw [e1, List.reverse_cons, List.reverse_cons]
    exact RpA.append (RpA.reverse e3) (RpA.one e2)
theorem RpA.rep {p : P} {v : V} (h : Rp K B p v) : ∀ n : Nat, RpA K B (List.replicate n p) (List.replicate n v)
  | 0 => rfl
  | n + 1 => ⟨v, List.replicate n v, rfl, h, RpA.rep h n⟩
theorem RpA.ints : ∀ {ns : List Int}, RpA K B (ns.map P.int) (ns.map V.int)
  | [] => rfl
  | n :: ns => ⟨V.int n, ns.map V.int, rfl, rfl, RpA.ints⟩
theorem RpA.ints_inv : ∀ {ns : List Int} {vs : List V}, RpA K B (ns.map P.int) vs → vs = ns.map V.int
  | [], _, h => h
  | n :: ns, _, ⟨v, r, e1, e2, e3⟩ => by rw [e1, RpA.ints_inv e3, show v = V.int n from e2]; rfl
end

/-- what a slot holds, and the objects that are its own -/
def RpD (K : PySem.W.Frag) (B H : Hp) : D → V → List Addr → Prop
  | .sh p, v, F => F = [] ∧ Rp K B p v
  | .ol ps, v, F => ∃ a vs, F = [a] ∧ v = .ref a ∧ H a = some (.lst vs) ∧ RpA K B ps vs
  | .oll pss, v, F => ∃ a as, F = a :: as ∧ v = .ref a ∧ H a = some (.lst (as.map V.ref)) ∧ as.length = pss.length ∧
      ∀ (i : Nat) (b : Addr) (ps : List P), as[i]? = some b → pss[i]? = some ps → ∃ vs, H b = some (.lst vs) ∧ RpA K B ps vs
theorem RpD.mono {K : PySem.W.Frag} {B B' H H' : Hp} (e : Ex B B') : ∀ {d : D} {v : V} {F : List Addr}, RpD K B H d v F → (∀ a ∈ F, ∀ o, H a = some o → H' a = some o) → RpD K B' H' d v F
  | .sh p, _, _, ⟨e1, e2⟩, _ => ⟨e1, Rp.mono e p e2⟩
  | .ol ps, _, _, ⟨a, vs, e1, e2, e3, e4⟩, k => ⟨a, vs, e1, e2, k a (by rw [e1]; exact List.mem_cons_self) _ e3, RpA.mono e ps e4⟩
  | .oll pss, _, _, ⟨a, as, e1, e2, e3, e4, e5⟩, k => ⟨a, as, e1, e2, k a (by rw [e1]; exact List.mem_cons_self) _ e3, e4, fun i b ps h1 h2 => by
    obtain ⟨vs, g1, g2⟩ := e5 i b ps h1 h2
    exact ⟨vs, k b (by rw [e1]; exact List.mem_cons_of_mem _ (List.mem_of_getElem? h1)) _ g1, RpA.mono e ps g2⟩⟩
theorem RpD.there {K : PySem.W.Frag} {B H : Hp} : ∀ {d : D} {v : V} {F : List Addr}, RpD K B H d v F → ∀ a ∈ F, ∃ o, H a = some o
  | .sh p, _, _, ⟨e1, _⟩, a, h => by rw [e1] at h; cases h
  | .ol ps, _, _, ⟨a, vs, e1, e2, e3, e4⟩, b, h => by
    rw [e1] at h
    rw [List.mem_singleton.mp h]
    exact ⟨_, e3⟩
  | .oll pss, _, _, ⟨a, as, e1, e2, e3, e4, e5⟩, b, h => by
    rw [e1] at h
    rcases List.mem_cons.mp h with h | h
    · rw [h]; exact ⟨_, e3⟩
    · obtain ⟨i, hi, e⟩ := List.getElem_of_mem h
      have h2 : pss[i]? = some (pss[i]'(by omega)) := List.getElem?_eq_getElem _
      obtain ⟨vs, g1, _⟩ := e5 i b _ (by rw [List.getElem?_eq_getElem hi, e]) h2
      exact ⟨_, g1⟩

/-- a slot's own list becomes plain data -/
def D.frz : D → P
  | .sh p => p
  | .ol ps => .lst ps
  | .oll pss => .lst (pss.map P.lst)

abbrev Env := List (Option D)
abbrev Fp := Nat → List Addr

/-- the world: B what is plain and stays, H all; each slot's own objects -/
structure Wd (K : PySem.W.Frag) (B H : Hp) (σ : St) (env : Env) (G : Fp) : Prop where
  ex : Ex B H
  sl : ∀ i d, env[i]? = some (some d) → ∃ v, σ[i]? = some (some v) ∧ RpD K B H d v (G i)
  no : ∀ i, (∀ d, env[i]? ≠ some (some d)) → G i = []
  nd : ∀ i, (G i).Nodup
  dj : ∀ i j a, a ∈ G i → a ∈ G j → i = j
  nb : ∀ i a, a ∈ G i → B a = none
  len : env.length = σ.length
/-- one world behind another -/
structure Stp (B H : Hp) (G : Fp) (B' H' : Hp) (G' : Fp) : Prop where
  ex : Ex B B'
  kp : ∀ a o, H a = some o → (∀ i, a ∉ G i) → H' a = some o
  fp : ∀ i a, a ∈ G' i → (∃ j, a ∈ G j) ∨ H a = none
  bs : ∀ a o, H a = some o → B a = none → (∀ i, a ∉ G i) → B' a = none
  th : ∀ a o, H a = some o → ∃ o', H' a = some o'
theorem Stp.refl {B H : Hp} {G : Fp} : Stp B H G B H G := ⟨Ex.refl _, fun _ _ h _ => h, fun i _ h => .inl ⟨i, h⟩, fun _ _ _ h _ => h, fun _ o h => ⟨o, h⟩⟩
theorem Stp.back {B H B' H' : Hp} {G G' : Fp} (s : Stp B H G B' H' G') {a : Addr} (h : H' a = none) : H a = none := by
  cases hh : H a with
  | none => rfl
  | some o =>
    obtain ⟨o', e⟩ := s.th a o hh
    rw [e] at h; cases h
theorem Stp.trans {B H B1 H1 B2 H2 : Hp} {G G1 G2 : Fp} (a : Stp B H G B1 H1 G1) (b : Stp B1 H1 G1 B2 H2 G2) : Stp B H G B2 H2 G2 where
  ex := a.ex.trans b.ex
  kp := fun x o h n => b.kp x o (a.kp x o h n) fun i hi => by
    rcases a.fp i x hi with ⟨j, hj⟩ | hn
    · exact n j hj
    · rw [h] at hn; cases hn
  fp := fun i x h => by
    rcases b.fp i x h with ⟨j, hj⟩ | hn
    · exact a.fp j x hj
    · by_cases hx : ∃ j, x ∈ G j
      · exact .inl hx
      · right
        cases hh : H x with
        | none => rfl
        | some o => rw [a.kp x o hh fun i hi => hx ⟨i, hi⟩] at hn; cases hn
  bs := fun x o h hb n => by
    refine b.bs x o (a.kp x o h n) (a.bs x o h hb n) fun i hi => ?_
    rcases a.fp i x hi with ⟨j, hj⟩ | hn
    · exact n j hj
    · rw [h] at hn; cases hn
  th := fun x o h => by
    obtain ⟨o', h1⟩ := a.th x o h
    exact b.th x o' h1
/-- behind what changes nothing -/
structure Gr (B H B' H' : Hp) : Prop where
  b : Ex B B'
  h : Ex H H'
  w : Ex B' H'
  n : ∀ a o, H a = some o → B a = none → B' a = none
theorem Gr.refl {B H : Hp} (e : Ex B H) : Gr B H B H := ⟨Ex.refl _, Ex.refl _, e, fun _ _ _ h => h⟩
theorem Gr.trans {B H B1 H1 B2 H2 : Hp} (a : Gr B H B1 H1) (b : Gr B1 H1 B2 H2) : Gr B H B2 H2 := ⟨a.b.trans b.b, a.h.trans b.h, b.w, fun x o h n => b.n x o (a.h x o h) (a.n x o h n)⟩
theorem Gr.stp {B H B' H' : Hp} {G : Fp} (g : Gr B H B' H') : Stp B H G B' H' G := ⟨g.b, fun a o h _ => g.h a o h, fun i _ h => .inl ⟨i, h⟩, fun a o h n _ => g.n a o h n, fun a o h => ⟨o, g.h a o h⟩⟩
theorem Wd.gr {K : PySem.W.Frag} {B H B' H' : Hp} {σ : St} {env : Env} {G : Fp} (w : Wd K B H σ env G) (g : Gr B H B' H') : Wd K B' H' σ env G where
  ex := g.w
  sl := fun i d e => by
    obtain ⟨v, h1, h2⟩ := w.sl i d e
    exact ⟨v, h1, RpD.mono g.b h2 fun a _ o h => g.h a o h⟩
  no := w.no
  nd := w.nd
  dj := w.dj
  nb := fun i a h => by
    by_cases hx : ∃ d, env[i]? = some (some d)
    · obtain ⟨d, e⟩ := hx
      obtain ⟨v, h1, h2⟩ := w.sl i d e
      obtain ⟨o, ho⟩ := RpD.there h2 a h
      exact g.n a o ho (w.nb i a h)
    · rw [w.no i fun d e => hx ⟨d, e⟩] at h; cases h
  len := w.len
/-- a new object, plain -/
theorem gr_new {B H : Hp} {p : Addr} {o : HO} (e : Ex B H) (h : H p = none) : Gr B H (upd B p o) (upd H p o) where
  b := fun a u k => by rw [upd_ne (ne_of_none k (e.back h))]; exact k
  h := fun a u k => by rw [upd_ne (ne_of_none k h)]; exact k
  w := fun a u k => by
    by_cases ha : a = p
    · subst ha; rw [upd_same] at k ⊢; exact k
    · rw [upd_ne ha] at k ⊢; exact e a u k
  n := fun a u k n => by rw [upd_ne (ne_of_none k h)]; exact n
end DL
set_option Elab.async false
set_option linter.all false
set_option maxRecDepth 100000
namespace DL
open PySem PySem.Spec L2
abbrev dE := Env → (P → Env → Prop) → Prop
abbrev dT := Env → (Bool → Env → Prop) → Prop
abbrev dO := Env → (D → Env → Prop) → Prop
abbrev AR := Sum P Nat
abbrev dA := Env → (List AR → Env → Prop) → Prop
/-- in the pure mode nothing of the slots changes -/
def Pure (m : Bool) (env env' : Env) (G G' : Fp) (B H B' H' : Hp) : Prop := m = true → env' = env ∧ G' = G ∧ Gr B H B' H'
theorem Pure.trans {m : Bool} {e e1 e2 : Env} {G G1 G2 : Fp} {B H B1 H1 B2 H2 : Hp} (a : Pure m e e1 G G1 B H B1 H1) (b : Pure m e1 e2 G1 G2 B1 H1 B2 H2) : Pure m e e2 G G2 B H B2 H2 := fun h => by
  obtain ⟨rfl, rfl, g⟩ := a h
  obtain ⟨rfl, rfl, g2⟩ := b h
  exact ⟨rfl, rfl, g.trans g2⟩
theorem Pure.gr {m : Bool} {e : Env} {G : Fp} {B H B1 H1 : Hp} (g : Gr B H B1 H1) : Pure m e e G G B H B1 H1 := fun _ => ⟨rfl, rfl, g⟩

theorem Wd.off {K : PySem.W.Frag} {B H : Hp} {σ : L2.St} {env : Env} {G : Fp} (w : Wd K B H σ env G) {a : Addr} (h : H a = none) (i : Nat) (hi : a ∈ G i) : False := by
  by_cases hx : ∃ d, env[i]? = some (some d)
  · obtain ⟨d, hd⟩ := hx
    obtain ⟨v', h1, h2⟩ := w.sl i d hd
    obtain ⟨o, ho⟩ := RpD.there h2 a hi
    rw [h] at ho; cases ho
  · rw [w.no i fun d e => hx ⟨d, e⟩] at hi; cases hi
structure SndE (m : Bool) (K : PySem.W.Frag) (te : TE) (de : dE) : Prop where
  run : ∀ {B H : Hp} {σ : L2.St} {env : Env} {G : Fp} {QD : P → Env → Prop} {Q : VK}, Wd K B H σ env G → de env QD →
    (∀ p env' v B' H' G', QD p env' → Wd K B' H' σ env' G' → Rp K B' p v → Stp B H G B' H' G' → Pure m env env' G G' B H B' H' → Q v H') → te σ H Q
structure SndT (m : Bool) (K : PySem.W.Frag) (te : TT) (de : dT) : Prop where
  run : ∀ {B H : Hp} {σ : L2.St} {env : Env} {G : Fp} {QD : Bool → Env → Prop} {Q : Bool → Hp → Prop}, Wd K B H σ env G → de env QD →
    (∀ b env' B' H' G', QD b env' → Wd K B' H' σ env' G' → Stp B H G B' H' G' → Pure m env env' G G' B H B' H' → Q b H') → te σ H Q
/-- something new that is the slot's own -/
structure Own (K : PySem.W.Frag) (H : Hp) (G : Fp) (B' H' : Hp) (G' : Fp) (d : D) (v : V) (F : List Addr) : Prop where
  rp : RpD K B' H' d v F
  nd : F.Nodup
  nb : ∀ a ∈ F, B' a = none
  nw : ∀ a ∈ F, (∃ j, a ∈ G j) ∨ H a = none
  ap : ∀ a ∈ F, ∀ i, a ∉ G' i
structure SndO (m : Bool) (K : PySem.W.Frag) (te : TE) (de : dO) : Prop where
  run : ∀ {B H : Hp} {σ : L2.St} {env : Env} {G : Fp} {QD : D → Env → Prop} {Q : VK}, Wd K B H σ env G → de env QD →
    (∀ d env' v F B' H' G', QD d env' → Wd K B' H' σ env' G' → Own K H G B' H' G' d v F → Stp B H G B' H' G' → Pure m env env' G G' B H B' H' → Q v H') → te σ H Q
def RpX (K : PySem.W.Frag) (B : Hp) (σ : L2.St) : List AR → List V → Prop
  | [], vs => vs = []
  | .inl p :: as, vs => ∃ v r, vs = v :: r ∧ Rp K B p v ∧ RpX K B σ as r
  | .inr i :: as, vs => ∃ v r, vs = v :: r ∧ σ[i]? = some (some v) ∧ RpX K B σ as r
structure SndA (m : Bool) (K : PySem.W.Frag) (te : TA) (de : dA) : Prop where
  run : ∀ {B H : Hp} {σ : L2.St} {env : Env} {G : Fp} {QD : List AR → Env → Prop} {Q : List V → Hp → Prop}, Wd K B H σ env G → de env QD →
    (∀ as env' vs B' H' G', QD as env' → Wd K B' H' σ env' G' → RpX K B' σ as vs → Stp B H G B' H' G' → Pure m env env' G G' B H B' H' → Q vs H') → te σ H Q
theorem RpX.mono {K : PySem.W.Frag} {B B' : Hp} {σ : L2.St} (e : Ex B B') : ∀ {as : List AR} {vs : List V}, RpX K B σ as vs → RpX K B' σ as vs
  | [], _, h => h
  | .inl p :: as, _, ⟨v, r, e1, e2, e3⟩ => ⟨v, r, e1, Rp.mono e p e2, RpX.mono e e3⟩
  | .inr i :: as, _, ⟨v, r, e1, e2, e3⟩ => ⟨v, r, e1, e2, RpX.mono e e3⟩

/-! ### the judgements -/
structure DE (m : Bool) (X : Cx) (e : Expr) (te : TE) (de : dE) : Prop where
  pe : PE X e te
  sd : SndE m X.K te de
structure DT (m : Bool) (X : Cx) (e : Expr) (te : TT) (de : dT) : Prop where
  pe : PT X e te
  sd : SndT m X.K te de
structure DW (m : Bool) (X : Cx) (e : Expr) (te : TT) (de : dT) : Prop where
  pe : PW X e te
  sd : SndT m X.K te de
structure DO (m : Bool) (X : Cx) (e : Expr) (te : TE) (de : dO) : Prop where
  pe : PE X e te
  sd : SndO m X.K te de
structure DA (m : Bool) (X : Cx) (e : List Expr) (te : TA) (de : dA) : Prop where
  pe : PA X e te
  sd : SndA m X.K te de

/-! ### values -/
def dVar (i : Nat) : dE := fun env Q => match env[i]? with
  | some (some (.sh p)) => Q p env
  | _ => False
def dC (p : P) : dE := fun env Q => Q p env
section
variable {m : Bool} {K : PySem.W.Frag} {ta tb te : TE} {da db de : dE} {tt tu : TT} {dt du : dT} {X : Cx} {a b c : Expr} {pos : Pos}
theorem snd_var {i : Nat} : SndE m K (tVar i) (dVar i) := ⟨fun {B H σ env G QD Q} w h k => by
  unfold dVar at h
  split at h
  · rename_i p e
    obtain ⟨v, h1, h2⟩ := w.sl i _ e
    exact ⟨v, h1, k p env v B H G h w h2.2 .refl (.gr (.refl w.ex))⟩
  · exact h.elim⟩
theorem snd_c {v : V} {p : P} (h : ∀ B, Rp K B p v) : SndE m K (tC v) (dC p) := ⟨fun {B H σ env G QD Q} w q k => k p env v B H G q w (h B) .refl (.gr (.refl w.ex))⟩
theorem de_v (i : Nat) (h : PE X a (tVar i)) : DE m X a (tVar i) (dVar i) := ⟨h, snd_var⟩
theorem de_int {i j} : DE m X (.Constant (.int i) j pos) (tC (.int i)) (dC (.int i)) := ⟨pe_int, snd_c fun _ => rfl⟩
theorem de_bl {i j} : DE m X (.Constant (.bool i) j pos) (tC (.bl i)) (dC (.bl i)) := ⟨pe_bl, snd_c fun _ => rfl⟩
theorem de_non {j} : DE m X (.Constant .none j pos) (tC .non) (dC .non) := ⟨pe_non, snd_c fun _ => rfl⟩
theorem de_str {x j} : DE m X (.Constant (.str x) j pos) (tC (.str x)) (dC (.str x)) := ⟨pe_str, snd_c fun _ => rfl⟩
theorem de_glob {v : V} {p : P} (h : PE X a (tC v)) (r : ∀ B, Rp X.K B p v) : DE m X a (tC v) (dC p) := ⟨h, snd_c r⟩

/-! ### operations on values -/
structure OpS (K : PySem.W.Frag) (r : R2) (rd : P → P → (P → Prop) → Prop) : Prop where
  run : ∀ {B H : Hp} {x y : V} {p q : P} {QD : P → Prop} {Q : VK}, Ex B H → Rp K B p x → Rp K B q y → rd p q QD →
    (∀ z B' H' pz, QD pz → Rp K B' pz z → Gr B H B' H' → Q z H') → r x y H Q
structure UnS (K : PySem.W.Frag) (r : V → Hp → VK → Prop) (rd : P → (P → Prop) → Prop) : Prop where
  run : ∀ {B H : Hp} {x : V} {p : P} {QD : P → Prop} {Q : VK}, Ex B H → Rp K B p x → rd p QD →
    (∀ z B' H' pz, QD pz → Rp K B' pz z → Gr B H B' H' → Q z H') → r x H Q
/-- a new object comes of it -/
structure OpO (K : PySem.W.Frag) (r : R2) (rd : P → P → (D → Prop) → Prop) : Prop where
  run : ∀ {B H : Hp} {x y : V} {p q : P} {QD : D → Prop} {Q : VK}, Ex B H → Rp K B p x → Rp K B q y → rd p q QD →
    (∀ z B' H' d F, QD d → RpD K B' H' d z F → F.Nodup → (∀ a ∈ F, B' a = none) → (∀ a ∈ F, H a = none) → Gr B H B' H' → Q z H') → r x y H Q
def dOp (rd : P → P → (P → Prop) → Prop) (da db : dE) : dE := fun env Q => da env fun p e1 => db e1 fun q e2 => rd p q fun z => Q z e2
def dUn (rd : P → (P → Prop) → Prop) (da : dE) : dE := fun env Q => da env fun p e1 => rd p fun z => Q z e1
def dOpO (rd : P → P → (D → Prop) → Prop) (da db : dE) : dO := fun env Q => da env fun p e1 => db e1 fun q e2 => rd p q fun z => Q z e2
theorem snd_op {r : R2} {rd : P → P → (P → Prop) → Prop} (hs : OpS K r rd) (ha : SndE m K ta da) (hb : SndE m K tb db) : SndE m K (tOp r ta tb) (dOp rd da db) :=
  ⟨fun {B H σ env G QD Q} w h k => ha.run w h fun p e1 v B1 H1 G1 q1 w1 r1 s1 u1 => hb.run w1 q1 fun q e2 u B2 H2 G2 q2 w2 r2 s2 u2 =>
    hs.run w2.ex (Rp.mono s2.ex p r1) r2 q2 fun z B3 H3 pz q3 r3 g3 => k pz e2 z B3 H3 G2 q3 (w2.gr g3) r3 ((s1.trans s2).trans g3.stp) ((u1.trans u2).trans (.gr g3))⟩
theorem snd_un {r : V → Hp → VK → Prop} {rd : P → (P → Prop) → Prop} (hs : UnS K r rd) (ha : SndE m K ta da) : SndE m K (tUn r ta) (dUn rd da) :=
  ⟨fun {B H σ env G QD Q} w h k => ha.run w h fun p e1 v B1 H1 G1 q1 w1 r1 s1 u1 =>
    hs.run w1.ex r1 q1 fun z B3 H3 pz q3 r3 g3 => k pz e1 z B3 H3 G1 q3 (w1.gr g3) r3 (s1.trans g3.stp) (u1.trans (.gr g3))⟩
theorem snd_opO {r : R2} {rd : P → P → (D → Prop) → Prop} (hs : OpO K r rd) (ha : SndE m K ta da) (hb : SndE m K tb db) : SndO m K (tOp r ta tb) (dOpO rd da db) :=
  ⟨fun {B H σ env G QD Q} w h k => ha.run w h fun p e1 v B1 H1 G1 q1 w1 r1 s1 u1 => hb.run w1 q1 fun q e2 u B2 H2 G2 q2 w2 r2 s2 u2 =>
    hs.run w2.ex (Rp.mono s2.ex p r1) r2 q2 fun z B3 H3 d F q3 r3 f1 f2 f3 g3 => by
      have st := (s1.trans s2)
      exact k d e2 z F B3 H3 G2 q3 (w2.gr g3) ⟨r3, f1, f2, fun a ha => .inr (st.back (f3 a ha)), fun a ha i hi => w2.off (f3 a ha) i hi⟩ (st.trans g3.stp) ((u1.trans u2).trans (.gr g3))⟩
end
end DL
set_option Elab.async false
set_option linter.all false
set_option maxRecDepth 100000
namespace DL
open PySem PySem.Spec L2
/-- one of two ways, by a truth value -/
def cnd (c : Bool) (A B : Prop) : Prop := (c = true → A) ∧ (c = false → B)
section
variable {m : Bool} {K : PySem.W.Frag} {ta tb te : TE} {da db de : dE} {tt tu : TT} {dt du : dT} {X : Cx} {a b c : Expr} {pos : Pos}
/-! ### from one mode to the other -/
theorem Pure.off {e e1 : Env} {G G1 : Fp} {B H B1 H1 : Hp} : Pure false e e1 G G1 B H B1 H1 := fun h => Bool.noConfusion h
theorem SndE.imp (h : SndE true K te de) : SndE false K te de := ⟨fun w q k => h.run w q fun p e v B H G q1 w1 r1 s1 _ => k p e v B H G q1 w1 r1 s1 .off⟩
theorem SndT.imp (h : SndT true K tt dt) : SndT false K tt dt := ⟨fun w q k => h.run w q fun p e B H G q1 w1 s1 _ => k p e B H G q1 w1 s1 .off⟩
theorem DE.imp {te de} (h : DE true X a te de) : DE false X a te de := ⟨h.pe, h.sd.imp⟩
theorem DT.imp {te de} (h : DT true X a te de) : DT false X a te de := ⟨h.pe, h.sd.imp⟩

/-! ### tests -/
def dB (de : dE) : dT := fun env Q => de env fun p e => match p with
  | .bl b => Q b e
  | _ => False
theorem snd_B (h : SndE m K te de) : SndT m K (tB te) (dB de) := ⟨fun w q k => h.run w q fun p e v B H G q1 w1 r1 s1 u1 => by
  cases p with
  | bl b => exact ⟨b, r1, k b e B H G q1 w1 s1 u1⟩
  | _ => exact q1.elim⟩
theorem snd_test (h : SndE m K te de) : SndT m K (tTest te) (dB de) := ⟨fun w q k => h.run w q fun p e v B H G q1 w1 r1 s1 u1 => by
  cases p with
  | bl b => exact ⟨b, r1, k b e B H G q1 w1 s1 u1⟩
  | _ => exact q1.elim⟩
/-- a value's truth -/
def truP : P → (Bool → Prop) → Prop
  | .non, Q => Q false
  | .bl b, Q => Q b
  | .int i, Q => Q (i != 0)
  | .str s, Q => s.length ≤ sizeLine ∧ Q ((s.length : Int) != 0)
  | .lst xs, Q => Q (!xs.isEmpty)
  | .rol xs, Q => Q (!xs.isEmpty)
  | .tup xs, Q => Q (!xs.isEmpty)
  | _, _ => False
def dTru (de : dE) : dT := fun env Q => de env fun p e => truP p fun b => Q b e
theorem RpA.isEmpty {B : Hp} {ps : List P} {vs : List V} (h : RpA K B ps vs) : vs.isEmpty = ps.isEmpty := by
  have h1 := h.length
  cases vs <;> cases ps <;> first | rfl | simp at h1
theorem tru_ok {B H : Hp} {p : P} {v : V} {QD : Bool → Prop} {Q : Bool → Hp → Prop} (e : Ex B H) (r : Rp K B p v) (q : truP p QD) (k : ∀ b, QD b → Q b H) : ∃ k, TruV K v H k ∧ Q k H := by
  cases p with
  | non => rw [show v = _ from r]; exact ⟨_, rfl, k _ q⟩
  | bl b => rw [show v = _ from r]; exact ⟨_, rfl, k _ q⟩
  | int b => rw [show v = _ from r]; exact ⟨_, rfl, k _ q⟩
  | str b => rw [show v = _ from r]; exact ⟨_, ⟨q.1, rfl⟩, k _ q.2⟩
  | lst xs => obtain ⟨a, vs, rfl, h1, h2⟩ := r; exact ⟨_, .inl ⟨vs, SqL.of (e a _ h1), rfl⟩, by rw [h2.isEmpty]; exact k _ q⟩
  | rol xs => obtain ⟨a, vs, rfl, h1, h2⟩ := r; exact ⟨_, .inl ⟨vs, e.sqL h1, rfl⟩, by rw [h2.isEmpty]; exact k _ q⟩
  | tup xs => obtain ⟨a, vs, rfl, h1, h2⟩ := r; exact ⟨_, .inr (.inl ⟨vs, e.sqT h1, rfl⟩), by rw [h2.isEmpty]; exact k _ q⟩
  | ob _ => exact q.elim
  | ty _ => exact q.elim
  | ins _ _ => exact q.elim
theorem snd_tru (h : SndE m K te de) : SndT m K (fun σ H Q => te σ H fun x H' => ∃ k, TruV K x H' k ∧ Q k H') (dTru de) := ⟨fun w q k => h.run w q fun p e v B H G q1 w1 r1 s1 u1 =>
  tru_ok w1.ex r1 q1 fun b qb => k b e B H G qb w1 s1 u1⟩
def dAnd (dt du : dT) : dT := fun env Q => dt env fun c e => cnd c (du e Q) (Q false e)
def dOr (dt du : dT) : dT := fun env Q => dt env fun c e => cnd c (Q true e) (du e Q)
def dNot (dt : dT) : dT := fun env Q => dt env fun c e => Q (!c) e
theorem snd_and (h : SndT m K tt dt) (g : SndT m K tu du) : SndT m K (tAnd tt tu) (dAnd dt du) := ⟨fun w q k => h.run w q fun b e B H G q1 w1 s1 u1 => by
  cases b with
  | true =>
    replace q1 := q1.1 rfl
    rw [if_pos rfl]
    exact g.run w1 q1 fun b e B H G q2 w2 s2 u2 => k b e B H G q2 w2 (s1.trans s2) (u1.trans u2)
  | false =>
    replace q1 := q1.2 rfl
    rw [if_neg Bool.false_ne_true]
    exact k false e B H G q1 w1 s1 u1⟩
theorem snd_or (h : SndT m K tt dt) (g : SndT m K tu du) : SndT m K (tOr tt tu) (dOr dt du) := ⟨fun w q k => h.run w q fun b e B H G q1 w1 s1 u1 => by
  cases b with
  | false =>
    replace q1 := q1.2 rfl
    rw [if_neg Bool.false_ne_true]
    exact g.run w1 q1 fun b e B H G q2 w2 s2 u2 => k b e B H G q2 w2 (s1.trans s2) (u1.trans u2)
  | true =>
    replace q1 := q1.1 rfl
    rw [if_pos rfl]
    exact k true e B H G q1 w1 s1 u1⟩
theorem snd_not (h : SndT m K tt dt) : SndT m K (tNot tt) (dNot dt) := ⟨fun w q k => h.run w q fun b e B H G q1 w1 s1 u1 => k (!b) e B H G q1 w1 s1 u1⟩
theorem dt_val (h : DE m X a te de) (he : ∀ whole, isTrue a X.env whole = (do let v ← whole; standAt a.pos; holding [v] (truthy v)) := by intro _; rfl) : DT m X a (tB te) (dB de) := ⟨pt_val h.pe he, snd_B h.sd⟩
theorem dt_tru (h : DE m X a te de) (he : ∀ whole, isTrue a X.env whole = (do let v ← whole; standAt a.pos; holding [v] (truthy v)) := by intro _; rfl) : DT m X a (fun σ H Q => te σ H fun x H' => ∃ k, TruV X.K x H' k ∧ Q k H') (dTru de) := ⟨pt_truth h.pe he, snd_tru h.sd⟩
theorem dt_cmp {op : CmpOp} {r : R2} {rd : P → P → (P → Prop) → Prop} (ho : OpR X (compareOp op) r) (hs : OpS X.K r rd) (ha : DE m X a ta da) (hb : DE m X b tb db) (hm : behindInMarks op b = false) :
    DT m X (.Compare a [op] [b] pos) (tTest (tOp r ta tb)) (dB (dOp rd da db)) := ⟨pt_cmpR ho ha.pe hb.pe hm, snd_test (snd_op hs ha.sd hb.sd)⟩
theorem de_cmp {op : CmpOp} {r : R2} {rd : P → P → (P → Prop) → Prop} (ho : OpR X (compareOp op) r) (hs : OpS X.K r rd) (ha : DE m X a ta da) (hb : DE m X b tb db) (hm : behindInMarks op b = false) :
    DE m X (.Compare a [op] [b] pos) (tOp r ta tb) (dOp rd da db) := ⟨pe_cmpR ho ha.pe hb.pe hm, snd_op hs ha.sd hb.sd⟩
theorem de_op {op : Operator} {r : R2} {rd : P → P → (P → Prop) → Prop} (ho : OpR X (binaryOp op) r) (hs : OpS X.K r rd) (ha : DE m X a ta da) (hb : DE m X b tb db) :
    DE m X (.BinOp a op b pos) (tOp r ta tb) (dOp rd da db) := ⟨pe_op ho ha.pe hb.pe, snd_op hs ha.sd hb.sd⟩
theorem do_op {op : Operator} {r : R2} {rd : P → P → (D → Prop) → Prop} (ho : OpR X (binaryOp op) r) (hs : OpO X.K r rd) (ha : DE m X a ta da) (hb : DE m X b tb db) :
    DO m X (.BinOp a op b pos) (tOp r ta tb) (dOpO rd da db) := ⟨pe_op ho ha.pe hb.pe, snd_opO hs ha.sd hb.sd⟩
theorem de_un {op : UnaryOp} {r : V → Hp → VK → Prop} {rd : P → (P → Prop) → Prop} (ho : UnR X (unaryOp op) r) (hs : UnS X.K r rd) (ha : DE m X a ta da) : DE m X (.UnaryOp op a pos) (tUn r ta) (dUn rd da) := ⟨pe_un ho ha.pe, snd_un hs ha.sd⟩
theorem de_ix {r : R2} {rd : P → P → (P → Prop) → Prop} (ho : IxR X r) (hs : OpS X.K r rd) (ha : DE m X a ta da) (hb : DE m X b tb db) (hp : PlainIx b := by intro _ _; rfl) :
    DE m X (.Subscript a b pos) (tOp r ta tb) (dOp rd da db) := ⟨pe_ix ho ha.pe hb.pe hp, snd_op hs ha.sd hb.sd⟩
variable {rest : List Expr} {tA tB' : TT} {dA' dB' : dT}
theorem dw_and1 (h : DT m X a tA dA') : DW m X (.BoolOp .And [a] pos) tA dA' := ⟨pw_and1 h.pe, h.sd⟩
theorem dw_or1 (h : DT m X a tA dA') : DW m X (.BoolOp .Or [a] pos) tA dA' := ⟨pw_or1 h.pe, h.sd⟩
theorem dw_and (h : DT m X a tA dA') (g : DW m X (.BoolOp .And (b :: rest) pos) tB' dB') : DW m X (.BoolOp .And (a :: b :: rest) pos) (tAnd tA tB') (dAnd dA' dB') := ⟨pw_and h.pe g.pe, snd_and h.sd g.sd⟩
theorem dw_or (h : DT m X a tA dA') (g : DW m X (.BoolOp .Or (b :: rest) pos) tB' dB') : DW m X (.BoolOp .Or (a :: b :: rest) pos) (tOr tA tB') (dOr dA' dB') := ⟨pw_or h.pe g.pe, snd_or h.sd g.sd⟩
theorem DW.pt (h : DW m X a tA dA') : DT m X a tA dA' := ⟨h.pe.pt, h.sd⟩
theorem dt_not (h : DT m X a tA dA') : DT m X (.UnaryOp .Not a pos) (tNot tA) (dNot dA') := ⟨pt_not h.pe, snd_not h.sd⟩
/-! ### and, or, not as values (bools) -/
def dAndV (da db : dE) : dE := fun env Q => da env fun p e => match p with
  | .bl c => cnd c (db e Q) (Q (.bl false) e)
  | _ => False
def dOrV (da db : dE) : dE := fun env Q => da env fun p e => match p with
  | .bl c => cnd c (Q (.bl true) e) (db e Q)
  | _ => False
def dNotV (da : dE) : dE := fun env Q => da env fun p e => match p with
  | .bl c => Q (.bl (!c)) e
  | _ => False
theorem snd_andV (h : SndE m K ta da) (g : SndE m K tb db) : SndE m K (tAndV ta tb) (dAndV da db) := ⟨fun w q k => h.run w q fun p e v B H G q1 w1 r1 s1 u1 => by
  cases p with
  | bl c =>
    refine ⟨c, r1, ?_⟩
    cases c with
    | true =>
      replace q1 := q1.1 rfl
      rw [if_pos rfl]
      exact g.run w1 q1 fun b e v B H G q2 w2 r2 s2 u2 => k b e v B H G q2 w2 r2 (s1.trans s2) (u1.trans u2)
    | false =>
      replace q1 := q1.2 rfl
      rw [if_neg Bool.false_ne_true]
      exact k _ e _ B H G q1 w1 rfl s1 u1
  | _ => exact q1.elim⟩
theorem snd_orV (h : SndE m K ta da) (g : SndE m K tb db) : SndE m K (tOrV ta tb) (dOrV da db) := ⟨fun w q k => h.run w q fun p e v B H G q1 w1 r1 s1 u1 => by
  cases p with
  | bl c =>
    refine ⟨c, r1, ?_⟩
    cases c with
    | false =>
      replace q1 := q1.2 rfl
      rw [if_neg Bool.false_ne_true]
      exact g.run w1 q1 fun b e v B H G q2 w2 r2 s2 u2 => k b e v B H G q2 w2 r2 (s1.trans s2) (u1.trans u2)
    | true =>
      replace q1 := q1.1 rfl
      rw [if_pos rfl]
      exact k _ e _ B H G q1 w1 rfl s1 u1
  | _ => exact q1.elim⟩
theorem snd_notV (h : SndE m K ta da) : SndE m K (tNotV ta) (dNotV da) := ⟨fun w q k => h.run w q fun p e v B H G q1 w1 r1 s1 u1 => by
  cases p with
  | bl c => exact ⟨c, r1, k _ e _ B H G q1 w1 rfl s1 u1⟩
  | _ => exact q1.elim⟩
theorem de_one {op} (h : DE m X a ta da) : DE m X (.BoolOp op [a] pos) ta da := ⟨pe_one h.pe, h.sd⟩
theorem de_and (h : DE m X a ta da) (g : DE m X (.BoolOp .And (b :: rest) pos) tb db) : DE m X (.BoolOp .And (a :: b :: rest) pos) (tAndV ta tb) (dAndV da db) := ⟨pe_and h.pe g.pe, snd_andV h.sd g.sd⟩
theorem de_or (h : DE m X a ta da) (g : DE m X (.BoolOp .Or (b :: rest) pos) tb db) : DE m X (.BoolOp .Or (a :: b :: rest) pos) (tOrV ta tb) (dOrV da db) := ⟨pe_or h.pe g.pe, snd_orV h.sd g.sd⟩
theorem de_not (h : DE m X a ta da) : DE m X (.UnaryOp .Not a pos) (tNotV ta) (dNotV da) := ⟨pe_not h.pe, snd_notV h.sd⟩
def dIf (dt : dT) (da db : dE) : dE := fun env Q => dt env fun c e => cnd c (da e Q) (db e Q)
theorem snd_if (h : SndT m K tt dt) (ga : SndE m K ta da) (gb : SndE m K tb db) : SndE m K (tIf tt ta tb) (dIf dt da db) := ⟨fun w q k => h.run w q fun b e B H G q1 w1 s1 u1 => by
  cases b with
  | true =>
    replace q1 := q1.1 rfl
    rw [if_pos rfl]
    exact ga.run w1 q1 fun b e v B H G q2 w2 r2 s2 u2 => k b e v B H G q2 w2 r2 (s1.trans s2) (u1.trans u2)
  | false =>
    replace q1 := q1.2 rfl
    rw [if_neg Bool.false_ne_true]
    exact gb.run w1 q1 fun b e v B H G q2 w2 r2 s2 u2 => k b e v B H G q2 w2 r2 (s1.trans s2) (u1.trans u2)⟩
theorem de_ifExp (h : DT m X c tt dt) (ga : DE m X a ta da) (gb : DE m X b tb db) : DE m X (.IfExp c a b pos) (tIf tt ta tb) (dIf dt da db) := ⟨pe_ifExp h.pe ga.pe gb.pe, snd_if h.sd ga.sd gb.sd⟩
end

/-! ### argument lists -/
def dNil : dA := fun env Q => Q [] env
def dCons (de : dE) (dr : dA) : dA := fun env Q => de env fun p e => dr e fun as e2 => Q (.inl p :: as) e2
def dSlot (i : Nat) (dr : dA) : dA := fun env Q => match env[i]? with
  | some (some _) => dr env fun as e2 => Q (.inr i :: as) e2
  | _ => False
section
variable {m : Bool} {K : PySem.W.Frag} {te : TE} {de : dE} {ta : TA} {da : dA} {X : Cx} {a b c : Expr} {es : List Expr} {pos : Pos}
theorem snd_nil : SndA m K tNil dNil := ⟨fun {B H σ env G QD Q} w q k => k [] env [] B H G q w rfl .refl (.gr (.refl w.ex))⟩
theorem snd_cons (h : SndE m K te de) (g : SndA m K ta da) : SndA m K (tCons te ta) (dCons de da) := ⟨fun w q k => h.run w q fun p e v B H G q1 w1 r1 s1 u1 =>
  g.run w1 q1 fun as e2 vs B2 H2 G2 q2 w2 r2 s2 u2 => k _ e2 _ B2 H2 G2 q2 w2 ⟨v, vs, rfl, Rp.mono s2.ex p r1, r2⟩ (s1.trans s2) (u1.trans u2)⟩
theorem da_nil : DA m X [] tNil dNil := ⟨pa_nil, snd_nil⟩
theorem da_cons (h : DE m X a te de) (g : DA m X es ta da) (hs : starEach (a :: es) X.env = (false, eval a X.env) :: starEach es X.env := by rfl) : DA m X (a :: es) (tCons te ta) (dCons de da) := ⟨pa_cons h.pe g.pe hs, snd_cons h.sd g.sd⟩
theorem snd_slot {i : Nat} (g : SndA m K ta da) : SndA m K (tCons (tVar i) ta) (dSlot i da) := ⟨fun {B H σ env G QD Q} w q k => by
  unfold dSlot at q
  split at q
  · rename_i d hd
    obtain ⟨v, hv, _⟩ := w.sl i d hd
    exact ⟨v, hv, g.run w q fun as e2 vs B2 H2 G2 q2 w2 r2 s2 u2 => k _ e2 _ B2 H2 G2 q2 w2 ⟨v, vs, rfl, hv, r2⟩ s2 u2⟩
  · exact q.elim⟩
theorem da_slot {i : Nat} (h : PE X a (tVar i)) (g : DA m X es ta da) (hs : starEach (a :: es) X.env = (false, eval a X.env) :: starEach es X.env := by rfl) : DA m X (a :: es) (tCons (tVar i) ta) (dSlot i da) := ⟨pa_cons h g.pe hs, snd_slot g.sd⟩
end
end DL
set_option Elab.async false
set_option linter.all false
set_option maxRecDepth 100000
namespace DL
open PySem PySem.Spec L2
/-! ### a slot's own list becomes plain -/
def frzB (B H : Hp) (F : List Addr) : Hp := fun a => if a ∈ F then H a else B a
theorem frz_rp {K : PySem.W.Frag} {B H : Hp} {F : List Addr} (nb : ∀ a ∈ F, B a = none) : ∀ {d : D} {v : V}, RpD K B H d v F → Rp K (frzB B H F) d.frz v := by
  have e : Ex B (frzB B H F) := fun a o h => by
    unfold frzB
    rw [if_neg]
    · exact h
    · intro hm; rw [nb a hm] at h; cases h
  intro d v h
  cases d with
  | sh p => exact Rp.mono e p h.2
  | ol ps =>
    obtain ⟨a, vs, e1, e2, e3, e4⟩ := h
    refine ⟨a, vs, e2, ?_, RpA.mono e ps e4⟩
    unfold frzB
    rw [if_pos (by rw [e1]; exact List.mem_cons_self)]
    exact e3
  | oll pss =>
    obtain ⟨a, as, e1, e2, e3, e4, e5⟩ := h
    refine ⟨a, as.map V.ref, e2, ?_, ?_⟩
    · unfold frzB
      rw [if_pos (by rw [e1]; exact List.mem_cons_self)]
      exact e3
    · have hF : ∀ b ∈ as, b ∈ F := fun b hb => by rw [e1]; exact List.mem_cons_of_mem _ hb
      clear e1 e2 e3
      induction as generalizing pss with
      | nil =>
        cases pss with
        | nil => rfl
        | cons _ _ => simp at e4
      | cons b as ih =>
        cases pss with
        | nil => simp at e4
        | cons ps pss =>
          obtain ⟨vs, g1, g2⟩ := e5 0 b ps rfl rfl
          refine ⟨.ref b, as.map V.ref, rfl, ⟨b, vs, rfl, ?_, RpA.mono e ps g2⟩, ih pss (by simpa using e4) (fun i c qs h1 h2 => e5 (i + 1) c qs h1 h2) fun c hc => hF c (List.mem_cons_of_mem _ hc)⟩
          unfold frzB
          rw [if_pos (hF b List.mem_cons_self)]
          exact g1
theorem frz_gr {B H : Hp} {F : List Addr} (ex : Ex B H) (nb : ∀ a ∈ F, B a = none) : Ex B (frzB B H F) ∧ Ex (frzB B H F) H := by
  refine ⟨fun a o h => ?_, fun a o h => ?_⟩
  · unfold frzB
    rw [if_neg]
    · exact h
    · intro hm; rw [nb a hm] at h; cases h
  · unfold frzB at h
    split at h
    · exact h
    · exact ex a o h
/-- objects that belong to no slot become plain -/
theorem Wd.frzO {K : PySem.W.Frag} {B H : Hp} {σ : L2.St} {env : Env} {G : Fp} {F : List Addr} (w : Wd K B H σ env G) (nb : ∀ a ∈ F, B a = none) (ap : ∀ a ∈ F, ∀ i, a ∉ G i) : Wd K (frzB B H F) H σ env G where
  ex := (frz_gr w.ex nb).2
  sl := fun i d e => by
    obtain ⟨v, h1, h2⟩ := w.sl i d e
    exact ⟨v, h1, RpD.mono (frz_gr w.ex nb).1 h2 fun _ _ _ h => h⟩
  no := w.no
  nd := w.nd
  dj := w.dj
  nb := fun i a h => by
    unfold frzB
    rw [if_neg fun hm => ap a hm i h]
    exact w.nb i a h
  len := w.len
section
variable {m : Bool} {K : PySem.W.Frag} {te : TE} {de : dE} {dq : dO} {ta : TA} {da : dA} {X : Cx} {a b c e : Expr} {es : List Expr} {pos : Pos}
def dFrz (dq : dO) : dE := fun env Q => dq env fun d e => Q d.frz e
theorem snd_frz (h : SndO m K te dq) : SndE m K te (dFrz dq) := ⟨fun {B H σ env G QD Q} w q k => h.run w q fun d e v F B1 H1 G1 q1 w1 o1 s1 u1 => by
  have st : Stp B H G (frzB B1 H1 F) H1 G1 := ⟨s1.ex.trans (frz_gr w1.ex o1.nb).1, s1.kp, s1.fp, fun a o h n hg => by
    unfold frzB
    rw [if_neg fun hm => by
      rcases o1.nw a hm with ⟨j, hj⟩ | hn
      · exact hg j hj
      · rw [hn] at h; cases h]
    exact s1.bs a o h n hg, s1.th⟩
  refine k d.frz e v (frzB B1 H1 F) H1 G1 q1 (w1.frzO o1.nb o1.ap) (frz_rp o1.nb o1.rp) st fun hm => ?_
  obtain ⟨e1, e2, g⟩ := u1 hm
  refine ⟨e1, e2, ⟨g.b.trans (frz_gr w1.ex o1.nb).1, g.h, (frz_gr w1.ex o1.nb).2, fun a o h n => ?_⟩⟩
  unfold frzB
  rw [if_neg fun hm => by
    rcases o1.nw a hm with ⟨j, hj⟩ | hn
    · exact o1.ap a hm j (by rw [e2]; exact hj)
    · rw [hn] at h; cases h]
  exact g.n a o h n⟩
theorem de_o (h : DO m X a te dq) : DE m X a te (dFrz dq) := ⟨h.pe, snd_frz h.sd⟩
def dSh (de : dE) : dO := fun env Q => de env fun p e => Q (.sh p) e
theorem snd_sh (h : SndE m K te de) : SndO m K te (dSh de) := ⟨fun w q k => h.run w q fun p e v B H G q1 w1 r1 s1 u1 =>
  k _ e v [] B H G q1 w1 ⟨⟨rfl, r1⟩, List.nodup_nil, fun _ h => absurd h List.not_mem_nil, fun _ h => absurd h List.not_mem_nil, fun _ h => absurd h List.not_mem_nil⟩ s1 u1⟩
theorem do_e (h : DE m X a te de) : DO m X a te (dSh de) := ⟨h.pe, snd_sh h.sd⟩
/-- a name that holds an own list, read as plain: from then on it is plain -/
def dVarF (i : Nat) : dE := fun env Q => match env[i]? with
  | some (some d) => Q d.frz (env.set i (some (.sh d.frz)))
  | _ => False
theorem set_some {α : Type} {l : List α} {i j : Nat} {x y : α} (h : (l.set i x)[j]? = some y) : (i = j ∧ x = y ∧ i < l.length) ∨ (i ≠ j ∧ l[j]? = some y) := by
  by_cases e : i = j
  · subst e
    by_cases hi : i < l.length
    · rw [List.getElem?_set_self hi] at h
      exact .inl ⟨rfl, Option.some.inj h, hi⟩
    · rw [List.getElem?_eq_none (by simpa using hi)] at h; cases h
  · rw [List.getElem?_set_ne e] at h
    exact .inr ⟨e, h⟩
/-- the slot i is given a value -/
theorem Wd.put {B H : Hp} {σ : L2.St} {env : Env} {G : Fp} {i : Nat} {d : D} {v : V} {F : List Addr} (w : Wd K B H σ env G) (hi : i < env.length) (r : RpD K B H d v F) (nd : F.Nodup) (nb : ∀ a ∈ F, B a = none) (ap : ∀ a ∈ F, ∀ j, j ≠ i → a ∉ G j) :
    Wd K B H (σ.set i (some v)) (env.set i (some d)) (fun j => if j = i then F else G j) where
  ex := w.ex
  sl := fun j d' e => by
    rcases set_some e with ⟨rfl, e2, _⟩ | ⟨n, e⟩
    · cases e2
      refine ⟨v, List.getElem?_set_self (by rw [← w.len]; exact hi), ?_⟩
      rw [if_pos rfl]; exact r
    · obtain ⟨v', h1, h2⟩ := w.sl j d' e
      refine ⟨v', by rw [List.getElem?_set_ne n]; exact h1, ?_⟩
      rw [if_neg fun q => n q.symm]; exact h2
  no := fun j h => by
    by_cases e : j = i
    · subst e
      exact absurd (List.getElem?_set_self hi) (h d)
    · show (if j = i then F else G j) = []
      rw [if_neg e]
      refine w.no j fun d' => ?_
      have := h d'
      rw [List.getElem?_set_ne fun q => e q.symm] at this
      exact this
  nd := fun j => by
    show (if j = i then F else G j).Nodup
    split
    · exact nd
    · exact w.nd j
  dj := fun j k a h1 h2 => by
    change a ∈ (if j = i then F else G j) at h1
    change a ∈ (if k = i then F else G k) at h2
    split at h1 <;> split at h2
    · rename_i e1 e2; rw [e1, e2]
    · rename_i e1 e2; exact absurd h2 (ap a h1 k e2)
    · rename_i e1 e2; exact absurd h1 (ap a h2 j e1)
    · exact w.dj j k a h1 h2
  nb := fun j a h => by
    change a ∈ (if j = i then F else G j) at h
    split at h
    · exact nb a h
    · exact w.nb j a h
  len := by rw [List.length_set, List.length_set]; exact w.len
theorem env_lt {env : Env} {i : Nat} {d : D} (e : env[i]? = some (some d)) : i < env.length := (List.getElem?_eq_some_iff.mp e).1
theorem set_id {α : Type} {l : List α} {i : Nat} {x : α} (h : l[i]? = some x) : l.set i x = l := by
  apply List.ext_getElem?
  intro j
  by_cases e : i = j
  · subst e
    rw [List.getElem?_set_self (List.getElem?_eq_some_iff.mp h).1, h]
  · rw [List.getElem?_set_ne e]
theorem snd_varF {i : Nat} : SndE false K (tVar i) (dVarF i) := ⟨fun {B H σ env G QD Q} w h k => by
  unfold dVarF at h
  split at h
  · rename_i d e
    obtain ⟨v, h1, h2⟩ := w.sl i _ e
    have nb : ∀ a ∈ G i, B a = none := fun a ha => w.nb i a ha
    have fg := frz_gr w.ex nb
    have wz : Wd K (frzB B H (G i)) H σ (env.set i none) (fun j => if j = i then [] else G j) := by
      refine ⟨fg.2, fun j d' e' => ?_, fun j hn => ?_, fun j => ?_, fun j l a ha hb => ?_, fun j a ha => ?_, by rw [List.length_set]; exact w.len⟩
      · rcases set_some e' with ⟨_, e2, _⟩ | ⟨n, e'⟩
        · cases e2
        · obtain ⟨v', g1, g2⟩ := w.sl j d' e'
          refine ⟨v', g1, ?_⟩
          rw [if_neg fun q => n q.symm]
          exact RpD.mono fg.1 g2 fun _ _ _ h => h
      · show (if j = i then [] else G j) = []
        split
        · rfl
        · rename_i n
          refine w.no j fun d' => ?_
          have := hn d'
          rw [List.getElem?_set_ne fun q => n q.symm] at this
          exact this
      · show (if j = i then [] else G j).Nodup
        split
        · exact List.nodup_nil
        · exact w.nd j
      · change a ∈ (if j = i then [] else G j) at ha
        change a ∈ (if l = i then [] else G l) at hb
        split at ha
        · cases ha
        · split at hb
          · cases hb
          · exact w.dj j l a ha hb
      · change a ∈ (if j = i then [] else G j) at ha
        split at ha
        · cases ha
        · rename_i n
          unfold frzB
          rw [if_neg fun hm => n (w.dj j i a ha hm)]
          exact w.nb j a ha
    have w2 := wz.put (i := i) (d := .sh d.frz) (v := v) (F := []) (by rw [List.length_set]; exact env_lt e) ⟨rfl, frz_rp nb h2⟩ List.nodup_nil (fun _ h => absurd h List.not_mem_nil) (fun _ h => absurd h List.not_mem_nil)
    rw [set_id h1, List.set_set] at w2
    refine ⟨v, h1, k _ _ v _ H _ h w2 (frz_rp nb h2) ⟨fg.1, fun a o h _ => h, fun j a ha => ?_, fun a o ho n hg => ?_, fun a o ho => ⟨o, ho⟩⟩ .off⟩
    · change a ∈ (if j = i then [] else if j = i then [] else G j) at ha
      split at ha
      · cases ha
      · exact .inl ⟨j, ha⟩
    · unfold frzB
      rw [if_neg (hg i)]
      exact n
  · exact h.elim⟩
theorem de_vF (i : Nat) (h : PE X a (tVar i)) : DE false X a (tVar i) (dVarF i) := ⟨h, snd_varF⟩

/-! ### displays -/
def prs : List AR → Option (List P)
  | [] => some []
  | .inl p :: as => (prs as).map (p :: ·)
  | .inr _ :: _ => none
theorem RpX.all {B : Hp} {σ : L2.St} : ∀ {as : List AR} {vs : List V} {ps : List P}, RpX K B σ as vs → prs as = some ps → RpA K B ps vs
  | [], _, _, h, e => by cases Option.some.inj e; exact h
  | .inl p :: as, _, ps, ⟨v, r, e1, e2, e3⟩, e => by
    unfold prs at e
    cases h : prs as with
    | none => rw [h] at e; cases e
    | some qs =>
      rw [h] at e
      cases Option.some.inj e
      exact ⟨v, r, e1, e2, RpX.all e3 h⟩
  | .inr i :: as, _, ps, _, e => by cases e
def dLst (da : dA) : dO := fun env Q => da env fun as e => match prs as with
  | some ps => ps.length ≤ sizeLine ∧ Q (.ol ps) e
  | none => False
def dTup (da : dA) : dE := fun env Q => da env fun as e => match prs as with
  | some ps => ps.length ≤ sizeLine ∧ Q (.tup ps) e
  | none => False
theorem own_new {B H : Hp} {σ : L2.St} {env : Env} {G : Fp} {p : Addr} {vs : List V} {ps : List P} {H0 : Hp} {G0 : Fp} (w : Wd K B H σ env G) (h : H p = none) (h0 : H0 p = none) (r : RpA K B ps vs) :
    Wd K B (upd H p (.lst vs)) σ env G ∧ Own K H0 G0 B (upd H p (.lst vs)) G (.ol ps) (.ref p) [p] ∧ Gr B H B (upd H p (.lst vs)) := by
  have g : Gr B H B (upd H p (.lst vs)) := ⟨Ex.refl _, fun a u k => by rw [upd_ne (ne_of_none k h)]; exact k, fun a u k => by rw [upd_ne (ne_of_none (w.ex a u k) h)]; exact w.ex a u k, fun a u k n => n⟩
  refine ⟨w.gr g, ⟨⟨p, vs, rfl, rfl, upd_same, r⟩, by simp, fun a ha => ?_, fun a ha => ?_, fun a ha i hi => ?_⟩, g⟩
  · rw [List.mem_singleton.mp ha]; exact w.ex.back h
  · rw [List.mem_singleton.mp ha]; exact .inr h0
  · rw [List.mem_singleton.mp ha] at hi; exact w.off h i hi
theorem snd_lst (h : SndA m K ta da) : SndO m K (tLst ta) (dLst da) := ⟨fun {B H σ env G QD Q} w q k => h.run w q fun as e vs B1 H1 G1 q1 w1 r1 s1 u1 => by
  change (match prs as with | some ps => ps.length ≤ sizeLine ∧ QD (.ol ps) e | none => False) at q1
  split at q1
  · rename_i ps hp
    have ra := r1.all hp
    refine ⟨by rw [ra.length]; exact q1.1, fun p hn => ?_⟩
    obtain ⟨w2, o2, g2⟩ := own_new w1 hn (s1.back hn) ra
    exact k _ e _ [p] B1 _ G1 q1.2 w2 o2 (s1.trans g2.stp) (u1.trans (.gr g2))
  · exact q1.elim⟩
theorem snd_tup (h : SndA m K ta da) : SndE m K (tTup ta) (dTup da) := ⟨fun {B H σ env G QD Q} w q k => h.run w q fun as e vs B1 H1 G1 q1 w1 r1 s1 u1 => by
  change (match prs as with | some ps => ps.length ≤ sizeLine ∧ QD (.tup ps) e | none => False) at q1
  split at q1
  · rename_i ps hp
    have ra := r1.all hp
    refine ⟨by rw [ra.length]; exact q1.1, fun p hn => ?_⟩
    have g2 := gr_new (o := .tup vs) w1.ex hn
    exact k _ e _ _ _ G1 q1.2 (w1.gr g2) ⟨p, vs, rfl, SqT.of upd_same, RpA.mono g2.b ps ra⟩ (s1.trans g2.stp) (u1.trans (.gr g2))
  · exact q1.elim⟩
theorem do_lst (h : DA m X es ta da) : DO m X (.List es pos) (tLst ta) (dLst da) := ⟨pe_lst h.pe, snd_lst h.sd⟩
theorem de_tup {x1} (h : DA m X es ta da) : DE m X (.Tuple es x1 pos) (tTup ta) (dTup da) := ⟨pe_tup h.pe, snd_tup h.sd⟩

/-! ### built-ins -/
structure CbS (K : PySem.W.Frag) (r : List V → Hp → VK → Prop) (rd : List P → (P → Prop) → Prop) : Prop where
  run : ∀ {B H : Hp} {xs : List V} {ps : List P} {QD : P → Prop} {Q : VK}, Ex B H → RpA K B ps xs → rd ps QD →
    (∀ z B' H' pz, QD pz → Rp K B' pz z → Gr B H B' H' → Q z H') → r xs H Q
structure CbO (K : PySem.W.Frag) (r : List V → Hp → VK → Prop) (rd : List P → (List P → Prop) → Prop) : Prop where
  run : ∀ {B H : Hp} {xs : List V} {ps : List P} {QD : List P → Prop} {Q : VK}, Ex B H → RpA K B ps xs → rd ps QD →
    (∀ l ys zs, QD zs → RpA K B zs ys → H l = none → Q (.ref l) (upd H l (.lst ys))) → r xs H Q
def dCb (rd : List P → (P → Prop) → Prop) (da : dA) : dE := fun env Q => da env fun as e => match prs as with
  | some ps => rd ps fun p => Q p e
  | none => False
def dCbO (rd : List P → (List P → Prop) → Prop) (da : dA) : dO := fun env Q => da env fun as e => match prs as with
  | some ps => rd ps fun p => Q (.ol p) e
  | none => False
theorem snd_cb {r : List V → Hp → VK → Prop} {rd : List P → (P → Prop) → Prop} (hs : CbS K r rd) (h : SndA m K ta da) : SndE m K (tCB r ta) (dCb rd da) := ⟨fun {B H σ env G QD Q} w q k => h.run w q fun as e vs B1 H1 G1 q1 w1 r1 s1 u1 => by
  change (match prs as with | some ps => rd ps fun p => QD p e | none => False) at q1
  split at q1
  · rename_i ps hp
    exact hs.run w1.ex (r1.all hp) q1 fun z B2 H2 pz q2 r2 g2 => k pz e z B2 H2 G1 q2 (w1.gr g2) r2 (s1.trans g2.stp) (u1.trans (.gr g2))
  · exact q1.elim⟩
theorem snd_cbO {r : List V → Hp → VK → Prop} {rd : List P → (List P → Prop) → Prop} (hs : CbO K r rd) (h : SndA m K ta da) : SndO m K (tCB r ta) (dCbO rd da) := ⟨fun {B H σ env G QD Q} w q k => h.run w q fun as e vs B1 H1 G1 q1 w1 r1 s1 u1 => by
  change (match prs as with | some ps => rd ps fun p => QD (.ol p) e | none => False) at q1
  split at q1
  · rename_i ps hp
    exact hs.run w1.ex (r1.all hp) q1 fun l ys zs q2 r2 hn => by
      obtain ⟨w2, o2, g2⟩ := own_new w1 hn (s1.back hn) r2
      exact k _ e _ [l] B1 _ G1 q2 w2 o2 (s1.trans g2.stp) (u1.trans (.gr g2))
  · exact q1.elim⟩
theorem de_cb {r : List V → Hp → VK → Prop} {rd : List P → (P → Prop) → Prop} {e0 : Expr} (h : PA X (e0 :: es) ta → PE X a (tCB r ta)) (hs : CbS X.K r rd) (ha : DA m X (e0 :: es) ta da) : DE m X a (tCB r ta) (dCb rd da) := ⟨h ha.pe, snd_cb hs ha.sd⟩
theorem do_cb {r : List V → Hp → VK → Prop} {rd : List P → (List P → Prop) → Prop} {e0 : Expr} (h : PA X (e0 :: es) ta → PE X a (tCB r ta)) (hs : CbO X.K r rd) (ha : DA m X (e0 :: es) ta da) : DO m X a (tCB r ta) (dCbO rd da) := ⟨h ha.pe, snd_cbO hs ha.sd⟩
end
end DL
set_option Elab.async false
set_option linter.all false
set_option maxRecDepth 100000
namespace DL
open PySem PySem.Spec L2
/-- the slot is there -/
def inE : Nat → Env → Bool
  | _, [] => false
  | 0, _ :: _ => true
  | i + 1, _ :: e => inE i e
theorem inE_lt : ∀ {i : Nat} {e : Env}, inE i e = true → i < e.length
  | 0, [], h => by simp [inE] at h
  | _ + 1, [], h => by simp [inE] at h
  | 0, _ :: e, _ => Nat.succ_pos _
  | i + 1, _ :: e, h => Nat.succ_lt_succ (inE_lt (i := i) (e := e) h)
structure dEnds where
  nx : Env → Prop
  rt : D → Env → Prop
  bk : Env → Prop := fun _ => False
  ct : Env → Prop := fun _ => False
abbrev dS := dEnds → Env → Prop
/-- the slots of pn keep their values -/
def Pin (pn : List Nat) (σ σ' : L2.St) : Prop := σ'.length = σ.length ∧ ∀ i ∈ pn, σ'[i]? = σ[i]?
theorem Pin.refl {pn : List Nat} {σ : L2.St} : Pin pn σ σ := ⟨rfl, fun _ _ => rfl⟩
theorem Pin.trans {pn : List Nat} {σ σ1 σ2 : L2.St} (a : Pin pn σ σ1) (b : Pin pn σ1 σ2) : Pin pn σ σ2 := ⟨b.1.trans a.1, fun i h => (b.2 i h).trans (a.2 i h)⟩
theorem Pin.set {pn : List Nat} {σ : L2.St} {i : Nat} {x : Option V} (h : i ∉ pn) : Pin pn σ (σ.set i x) := ⟨List.length_set, fun j hj => List.getElem?_set_ne fun e => h (by rw [e]; exact hj)⟩
/-- what is shown of the place behind: from the world at the start -/
def Nx (K : PySem.W.Frag) (pn : List Nat) (B H : Hp) (G : Fp) (σ : L2.St) (nd : Env → Prop) (n : L2.St → Hp → Prop) : Prop :=
  ∀ env' σ' B' H' G', nd env' → Wd K B' H' σ' env' G' → Stp B H G B' H' G' → Pin pn σ σ' → n σ' H'
def Rt (K : PySem.W.Frag) (pn : List Nat) (B H : Hp) (G : Fp) (σ : L2.St) (rd : D → Env → Prop) (r : VK) : Prop :=
  ∀ d env' σ' v F B' H' G', rd d env' → Wd K B' H' σ' env' G' → Own K H G B' H' G' d v F → Stp B H G B' H' G' → Pin pn σ σ' → r v H'
theorem Nx.at {K : PySem.W.Frag} {pn : List Nat} {B H B1 H1 : Hp} {G G1 : Fp} {σ σ1 : L2.St} {nd : Env → Prop} {n : L2.St → Hp → Prop} (h : Nx K pn B H G σ nd n) (s : Stp B H G B1 H1 G1) (p : Pin pn σ σ1) : Nx K pn B1 H1 G1 σ1 nd n :=
  fun env' σ' B' H' G' q w s2 p2 => h env' σ' B' H' G' q w (s.trans s2) (p.trans p2)
theorem Rt.at {K : PySem.W.Frag} {pn : List Nat} {B H B1 H1 : Hp} {G G1 : Fp} {σ σ1 : L2.St} {rd : D → Env → Prop} {r : VK} (h : Rt K pn B H G σ rd r) (s : Stp B H G B1 H1 G1) (p : Pin pn σ σ1) : Rt K pn B1 H1 G1 σ1 rd r :=
  fun d env' σ' v F B' H' G' q w o s2 p2 => h d env' σ' v F B' H' G' q w ⟨o.rp, o.nd, o.nb, fun a ha => (o.nw a ha).elim (fun ⟨j, hj⟩ => s.fp j a hj) (fun hn => .inr (s.back hn)), o.ap⟩ (s.trans s2) (p.trans p2)
structure SndS (pn : List Nat) (K : PySem.W.Frag) (ts : TS) (ds : dS) : Prop where
  run : ∀ {B H : Hp} {σ : L2.St} {env : Env} {G : Fp} {Dd : dEnds} {D : Ends}, Wd K B H σ env G → ds Dd env →
    Nx K pn B H G σ Dd.nx D.nx → Rt K pn B H G σ Dd.rt D.rt → Nx K pn B H G σ Dd.bk D.bk → Nx K pn B H G σ Dd.ct D.ct → ts D σ H
structure DS (pn : List Nat) (X : Cx) (st : Stmt) (ts : TS) (ds : dS) : Prop where
  pe : PS X st ts
  sd : SndS pn X.K ts ds
structure DSs (pn : List Nat) (X : Cx) (st : List Stmt) (ts : TS) (ds : dS) : Prop where
  pe : PSs X st ts
  sd : SndS pn X.K ts ds
def dNext : dS := fun Dd env => Dd.nx env
def dSeq (a b : dS) : dS := fun Dd env => a { Dd with nx := b Dd } env
def dBreak : dS := fun Dd env => Dd.bk env
def dCont : dS := fun Dd env => Dd.ct env
section
variable {pn : List Nat} {m : Bool} {K : PySem.W.Frag} {te ta tb : TE} {de da db : dE} {dq : dO} {tt : TT} {dt : dT} {t u : TS} {dt1 du : dS} {X : Cx} {a b c e : Expr} {st : Stmt} {rest sb : List Stmt} {pos : Pos}
theorem dss_nil : DSs pn X [] tNext dNext := ⟨pss_nil, ⟨fun {B H σ env G Dd D} w q n r k1 k2 => n env σ B H G q w .refl .refl⟩⟩
theorem snd_seq (h : SndS pn K t dt1) (g : SndS pn K u du) : SndS pn K (tSeq t u) (dSeq dt1 du) := ⟨fun {B H σ env G Dd D} w q n r k1 k2 =>
  h.run (D := { D with nx := u D }) w q (fun env' σ' B' H' G' q1 w1 s1 p1 => g.run w1 q1 (n.at s1 p1) (r.at s1 p1) (k1.at s1 p1) (k2.at s1 p1)) r k1 k2⟩
theorem dss_cons (h : DS pn X st t dt1) (g : DSs pn X rest u du) : DSs pn X (st :: rest) (tSeq t u) (dSeq dt1 du) := ⟨pss_cons h.pe g.pe, snd_seq h.sd g.sd⟩
theorem dss_one (h : DS pn X st t dt1) : DSs pn X [st] t dt1 := ⟨pss_one h.pe, h.sd⟩
theorem ds_pass : DS pn X (.Pass pos) tNext dNext := ⟨ps_pass, ⟨fun {B H σ env G Dd D} w q n r k1 k2 => n env σ B H G q w .refl .refl⟩⟩
theorem ds_break : DS pn X (.Break pos) tBreak dBreak := ⟨ps_break, ⟨fun {B H σ env G Dd D} w q n r k1 k2 => k1 env σ B H G q w .refl .refl⟩⟩
theorem ds_continue : DS pn X (.Continue pos) tCont dCont := ⟨ps_continue, ⟨fun {B H σ env G Dd D} w q n r k1 k2 => k2 env σ B H G q w .refl .refl⟩⟩
/-- an expression whose value is dropped -/
def dDrop (de : dE) : dS := fun Dd env => de env fun _ e => Dd.nx e
theorem snd_drop (h : SndE m K te de) : SndS pn K (tDrop te) (dDrop de) := ⟨fun {B H σ env G Dd D} w q n r k1 k2 => h.run w q fun p env' v B' H' G' q1 w1 r1 s1 _ => n env' σ B' H' G' q1 w1 s1 .refl⟩
theorem ds_drop (h : DE false X e te de) (hs : swapsWith e none pos.line X.env = pure false := by rfl) : DS pn X (.Expr e pos) (tDrop te) (dDrop de) := ⟨ps_expr h.pe hs, snd_drop h.sd⟩
def dRet (dq : dO) : dS := fun Dd env => dq env Dd.rt
theorem snd_ret (h : SndO m K te dq) : SndS pn K (tRet te) (dRet dq) := ⟨fun {B H σ env G Dd D} w q n r k1 k2 => h.run w q fun d env' v F B' H' G' q1 w1 o1 s1 _ => r d env' σ v F B' H' G' q1 w1 o1 s1 .refl⟩
theorem ds_retO (h : DO false X e te dq) : DS pn X (.Return (some e) pos) (tRet te) (dRet dq) := ⟨ps_ret h.pe, snd_ret h.sd⟩
theorem ds_ret (h : DE false X e te de) : DS pn X (.Return (some e) pos) (tRet te) (dRet (dSh de)) := ⟨ps_ret h.pe, snd_ret (snd_sh h.sd)⟩
def dRetN : dS := fun Dd env => Dd.rt (.sh .non) env
theorem ds_retN : DS pn X (.Return none pos) tRetN dRetN := ⟨ps_retN, ⟨fun {B H σ env G Dd D} w q n r k1 k2 => r _ env σ .non [] B H G q w ⟨⟨rfl, rfl⟩, List.nodup_nil, fun _ h => absurd h List.not_mem_nil, fun _ h => absurd h List.not_mem_nil, fun _ h => absurd h List.not_mem_nil⟩ .refl .refl⟩⟩
def dIfS (dt : dT) (a b : dS) : dS := fun Dd env => dt env fun c e => cnd c (a Dd e) (b Dd e)
theorem snd_ifS (h : SndT m K tt dt) (g : SndS pn K t dt1) (f : SndS pn K u du) : SndS pn K (tIfS tt t u) (dIfS dt dt1 du) := ⟨fun {B H σ env G Dd D} w q n r k1 k2 => h.run w q fun b env' B' H' G' q1 w1 s1 _ => by
  cases b with
  | true =>
    replace q1 := q1.1 rfl
    rw [if_pos rfl]
    exact g.run w1 q1 (n.at s1 .refl) (r.at s1 .refl) (k1.at s1 .refl) (k2.at s1 .refl)
  | false =>
    replace q1 := q1.2 rfl
    rw [if_neg Bool.false_ne_true]
    exact f.run w1 q1 (n.at s1 .refl) (r.at s1 .refl) (k1.at s1 .refl) (k2.at s1 .refl)⟩
theorem ds_if (h : DT false X c tt dt) (g : DSs pn X rest t dt1) (f : DSs pn X sb u du) : DS pn X (.If c rest sb pos) (tIfS tt t u) (dIfS dt dt1 du) := ⟨ps_if h.pe g.pe f.pe, snd_ifS h.sd g.sd f.sd⟩

/-! ### targets -/
abbrev dG := P → Env → (Env → Prop) → Prop
def NxG (K : PySem.W.Frag) (pn : List Nat) (B H : Hp) (G : Fp) (σ : L2.St) (nd : Env → Prop) (n : L2.St → Hp → Prop) : Prop :=
  ∀ env' σ' G', nd env' → Wd K B H σ' env' G' → (∀ i a, a ∈ G' i → ∃ j, a ∈ G j) → Pin pn σ σ' → n σ' H
theorem stp_g {B H : Hp} {G G' : Fp} (h : ∀ i a, a ∈ G' i → ∃ j, a ∈ G j) : Stp B H G B H G' := ⟨Ex.refl _, fun _ _ h _ => h, fun i a k => .inl (h i a k), fun _ _ _ h _ => h, fun a o h => ⟨o, h⟩⟩
theorem Nx.g {pn : List Nat} {K : PySem.W.Frag} {B H : Hp} {G : Fp} {σ : L2.St} {nd : Env → Prop} {n : L2.St → Hp → Prop} (h : Nx K pn B H G σ nd n) : NxG K pn B H G σ nd n :=
  fun env' σ' G' q w g p => h env' σ' B H G' q w (stp_g g) p
structure SndG (pn : List Nat) (K : PySem.W.Frag) (g : TG) (dg : dG) : Prop where
  run : ∀ {B H : Hp} {σ : L2.St} {env : Env} {G : Fp} {p : P} {v : V} {QD : Env → Prop} {Q : L2.St → Hp → Prop}, Wd K B H σ env G → Rp K B p v → dg p env QD → NxG K pn B H G σ QD Q → g v σ H Q
structure DG (pn : List Nat) (X : Cx) (tg : Expr) (g : TG) (dg : dG) : Prop where
  pe : PG X tg g
  sd : SndG pn X.K g dg
def dgName (i : Nat) : dG := fun p env Q => inE i env = true ∧ Q (env.set i (some (.sh p)))
theorem Wd.putS {B H : Hp} {σ : L2.St} {env : Env} {G : Fp} {i : Nat} {p : P} {v : V} (w : Wd K B H σ env G) (hi : i < env.length) (r : Rp K B p v) :
    Wd K B H (σ.set i (some v)) (env.set i (some (.sh p))) (fun j => if j = i then [] else G j) :=
  w.put hi ⟨rfl, r⟩ List.nodup_nil (fun _ h => absurd h List.not_mem_nil) fun _ h => absurd h List.not_mem_nil
theorem stp_put {B H : Hp} {G : Fp} {i : Nat} {F : List Addr} (nw : ∀ a ∈ F, H a = none ∨ ∃ j, a ∈ G j) : Stp B H G B H (fun j => if j = i then F else G j) :=
  ⟨Ex.refl _, fun _ _ h _ => h, fun j a h => by
    change a ∈ (if j = i then F else G j) at h
    split at h
    · exact (nw a h).symm
    · exact .inl ⟨j, h⟩, fun _ _ _ h _ => h, fun a o h => ⟨o, h⟩⟩
theorem snd_gname {i : Nat} (hp : i ∉ pn) : SndG pn K (gName i) (dgName i) := ⟨fun {B H σ env G p v QD Q} w r q n =>
  n _ _ _ q.2 (w.putS (inE_lt q.1) r) (fun j a h => by
    change a ∈ (if j = i then [] else G j) at h
    split at h
    · cases h
    · exact ⟨j, h⟩) (Pin.set hp)⟩
theorem dg_name {i : Nat} (h : PG X a (gName i)) (hp : i ∉ pn := by decide) : DG pn X a (gName i) (dgName i) := ⟨h, snd_gname hp⟩
abbrev dGs := List P → Env → (Env → Prop) → Prop
structure SndGs (pn : List Nat) (K : PySem.W.Frag) (g : TGs) (dg : dGs) : Prop where
  run : ∀ {B H : Hp} {σ : L2.St} {env : Env} {G : Fp} {ps : List P} {vs : List V} {QD : Env → Prop} {Q : L2.St → Hp → Prop}, Wd K B H σ env G → RpA K B ps vs → dg ps env QD → NxG K pn B H G σ QD Q → g vs σ H Q
structure DGs (pn : List Nat) (X : Cx) (tg : List Expr) (g : TGs) (dg : dGs) : Prop where
  pe : PGs X tg g
  sd : SndGs pn X.K g dg
def dgNil : dGs := fun ps env Q => match ps with
  | [] => Q env
  | _ => False
def dgCons (g : dG) (gs : dGs) : dGs := fun ps env Q => match ps with
  | p :: r => g p env fun e => gs r e Q
  | [] => False
theorem snd_gnil : SndGs pn K gNil dgNil := ⟨fun {B H σ env G ps vs QD Q} w r q n => by
  cases ps with
  | nil => exact ⟨r, n env σ G q w (fun i a h => ⟨i, h⟩) .refl⟩
  | cons _ _ => exact q.elim⟩
theorem snd_gcons {g : TG} {gs : TGs} {dg : dG} {dgs : dGs} (h : SndG pn K g dg) (hs : SndGs pn K gs dgs) : SndGs pn K (gCons g gs) (dgCons dg dgs) := ⟨fun {B H σ env G ps vs QD Q} w r q n => by
  cases ps with
  | nil => exact q.elim
  | cons p ps =>
    obtain ⟨v, l, e1, e2, e3⟩ := r
    exact ⟨v, l, e1, h.run w e2 q fun env' σ' G' q1 w1 g1 p1 => hs.run w1 e3 q1 fun env2 σ2 G2 q2 w2 g2 p2 => n env2 σ2 G2 q2 w2 (fun i a h => (g2 i a h).elim fun j hj => g1 j a hj) (p1.trans p2)⟩⟩
theorem dgs_nil : DGs pn X [] gNil dgNil := ⟨pgs_nil, snd_gnil⟩
theorem dgs_cons {e : Expr} {es : List Expr} {g : TG} {gs : TGs} {dg : dG} {dgs : dGs} (h : DG pn X e g dg) (hs : DGs pn X es gs dgs) (h3 : (assignEach (e :: es) X.env).map (·.2) = assign e X.env :: (assignEach es X.env).map (·.2) := by rfl) : DGs pn X (e :: es) (gCons g gs) (dgCons dg dgs) := ⟨pgs_cons h.pe hs.pe h3, snd_gcons h.sd hs.sd⟩
def dgTup (n : Nat) (gs : dGs) : dG := fun p env Q => match p with
  | .tup ps => ps.length = n ∧ gs ps env Q
  | _ => False
theorem snd_gtup {n : Nat} {gs : TGs} {dgs : dGs} (hs : SndGs pn K gs dgs) : SndG pn K (gTup K n gs) (dgTup n dgs) := ⟨fun {B H σ env G p v QD Q} w r q k => by
  cases p with
  | tup ps =>
    obtain ⟨a, vs, e1, e2, e3⟩ := r
    exact ⟨a, vs, e1, w.ex.sqT e2, e3.length.trans q.1, hs.run w e3 q.2 k⟩
  | _ => exact q.elim⟩
theorem dg_tup {n : Nat} {gs : TGs} {dgs : dGs} (h : PGs X rest' gs → PG X a (gTup X.K n gs)) (hs : DGs pn X rest' gs dgs) : DG pn X a (gTup X.K n gs) (dgTup n dgs) := ⟨h hs.pe, snd_gtup hs.sd⟩

/-! ### stores -/
def dAsg (de : dE) (dg : dG) : dS := fun Dd env => de env fun p e => dg p e Dd.nx
theorem snd_asg {g : TG} {dg : dG} (h : SndE m K te de) (hg : SndG pn K g dg) : SndS pn K (tAsg te g) (dAsg de dg) := ⟨fun {B H σ env G Dd D} w q n r k1 k2 => h.run w q fun p env' v B' H' G' q1 w1 r1 s1 _ =>
  hg.run w1 r1 q1 (n.at s1 .refl).g⟩
theorem ds_asg {tg : Expr} {g : TG} {dg : dG} (h : DE false X e te de) (hg : DG pn X tg g dg) (hs : swapsWithSole [tg] e pos.line X.env = pure false := by rfl) (hw : swappedStores [tg] e X.env = pure none := by rfl) (h1 : (assignEach [tg] X.env).map (·.2) = [assign tg X.env] := by rfl) :
    DS pn X (.Assign [tg] e pos) (tAsg te g) (dAsg de dg) := ⟨ps_asg h.pe hg.pe hs hw h1, snd_asg h.sd hg.sd⟩
/-- name = something that is then the name's own -/
def dPut (i : Nat) (dq : dO) : dS := fun Dd env => dq env fun d e => inE i e = true ∧ Dd.nx (e.set i (some d))
theorem snd_put {i : Nat} (hp : i ∉ pn) (h : SndO m K te dq) : SndS pn K (tAsg te (gName i)) (dPut i dq) := ⟨fun {B H σ env G Dd D} w q n r k1 k2 => h.run w q fun d env' v F B' H' G' q1 w1 o1 s1 _ =>
  n _ _ B' H' _ q1.2 (w1.put (inE_lt q1.1) o1.rp o1.nd o1.nb fun a ha j _ => o1.ap a ha j) ⟨s1.ex, s1.kp, fun j a hm => by
    change a ∈ (if j = i then F else G' j) at hm
    split at hm
    · exact o1.nw a hm
    · exact s1.fp j a hm, s1.bs, s1.th⟩ (Pin.set hp)⟩
theorem ds_put {i : Nat} {tg : Expr} (h : DO false X e te dq) (hg : PG X tg (gName i)) (hp : i ∉ pn := by decide) (hs : swapsWithSole [tg] e pos.line X.env = pure false := by rfl) (hw : swappedStores [tg] e X.env = pure none := by rfl) (h1 : (assignEach [tg] X.env).map (·.2) = [assign tg X.env] := by rfl) :
    DS pn X (.Assign [tg] e pos) (tAsg te (gName i)) (dPut i dq) := ⟨ps_asg h.pe hg hs hw h1, snd_put hp h.sd⟩
theorem ds_setc {i : Nat} {tg : Expr} {st : Stmt} (h : PS X st (tAsg te (gName i))) (hq : SndO m X.K te dq) (hp : i ∉ pn := by decide) : DS pn X st (tAsg te (gName i)) (dPut i dq) := ⟨h, snd_put hp hq⟩
/-- return of a name that holds its own list: given away -/
def dRetV (i : Nat) : dS := fun Dd env => match env[i]? with
  | some (some d) => Dd.rt d (env.set i none)
  | _ => False
theorem Wd.drop {B H : Hp} {σ : L2.St} {env : Env} {G : Fp} (w : Wd K B H σ env G) (i : Nat) : Wd K B H σ (env.set i none) (fun j => if j = i then [] else G j) := by
  refine ⟨w.ex, fun j d' e' => ?_, fun j hn => ?_, fun j => ?_, fun j l a ha hb => ?_, fun j a ha => ?_, by rw [List.length_set]; exact w.len⟩
  · rcases set_some e' with ⟨_, e2, _⟩ | ⟨n, e'⟩
    · cases e2
    · obtain ⟨v', g1, g2⟩ := w.sl j d' e'
      refine ⟨v', g1, ?_⟩
      rw [if_neg fun q => n q.symm]
      exact g2
  · show (if j = i then [] else G j) = []
    split
    · rfl
    · rename_i n
      refine w.no j fun d' => ?_
      have := hn d'
      rw [List.getElem?_set_ne fun q => n q.symm] at this
      exact this
  · show (if j = i then [] else G j).Nodup
    split
    · exact List.nodup_nil
    · exact w.nd j
  · change a ∈ (if j = i then [] else G j) at ha
    change a ∈ (if l = i then [] else G l) at hb
    split at ha
    · cases ha
    · split at hb
      · cases hb
      · exact w.dj j l a ha hb
  · change a ∈ (if j = i then [] else G j) at ha
    split at ha
    · cases ha
    · exact w.nb j a ha
theorem snd_retV {i : Nat} : SndS pn K (tRet (tVar i)) (dRetV i) := ⟨fun {B H σ env G Dd D} w q n r k1 k2 => by
  unfold dRetV at q
  split at q
  · rename_i d hd
    obtain ⟨v, h1, h2⟩ := w.sl i d hd
    refine ⟨v, h1, r d _ σ v (G i) B H _ q (w.drop i) ⟨h2, w.nd i, w.nb i, fun a ha => .inl ⟨i, ha⟩, fun a ha j hj => ?_⟩ (stp_put fun _ h => absurd h List.not_mem_nil) .refl⟩
    change a ∈ (if j = i then [] else G j) at hj
    split at hj
    · cases hj
    · rename_i n
      exact n (w.dj j i a hj ha)
  · exact q.elim⟩
theorem ds_retV (i : Nat) (h : PE X e (tVar i)) : DS pn X (.Return (some e) pos) (tRet (tVar i)) (dRetV i) := ⟨ps_ret h, snd_retV⟩
end
end DL
set_option Elab.async false
set_option linter.all false
set_option maxRecDepth 100000
namespace DL
open PySem PySem.Spec L2
section
variable {pn : List Nat} {m : Bool} {K : PySem.W.Frag} {te ta tb ti to : TE} {de da db di : dE} {dq : dO} {tt : TT} {dt : dT} {t u : TS} {dt1 du : dS} {X : Cx} {a b c e : Expr} {st : Stmt} {rest sb : List Stmt} {pos : Pos}
/-! ### a slot's own list is changed -/
def ixQ (q : P) (o : Option (Option D)) (f : Int → List P → Prop) : Prop := match q, o with
  | .int k, some (some (.ol ps)) => f k ps
  | _, _ => False
theorem ixQ_is {q : P} {o : Option (Option D)} {f : Int → List P → Prop} (h : ixQ q o f) : ∃ k ps, q = .int k ∧ o = some (some (.ol ps)) ∧ f k ps := by
  unfold ixQ at h
  split at h
  · exact ⟨_, _, rfl, rfl, h⟩
  · exact h.elim
theorem Wd.chg {B H : Hp} {σ : L2.St} {env : Env} {G : Fp} {i : Nat} {d d' : D} {v : V} {l : Addr} {o : HO} (w : Wd K B H σ env G) (e : env[i]? = some (some d)) (hv : σ[i]? = some (some v)) (hl : l ∈ G i) (r : RpD K B (upd H l o) d' v (G i)) :
    Wd K B (upd H l o) σ (env.set i (some d')) G ∧ Stp B H G B (upd H l o) G := by
  have nB : B l = none := w.nb i l hl
  refine ⟨⟨fun a u h => ?_, fun j d2 h => ?_, fun j hn => ?_, w.nd, w.dj, w.nb, by rw [List.length_set]; exact w.len⟩, ⟨Ex.refl _, fun a u h n => ?_, fun j a h => .inl ⟨j, h⟩, fun _ _ _ h _ => h, fun a u h => ?_⟩⟩
  · rw [upd_ne (ne_of_none h nB)]; exact w.ex a u h
  · rcases set_some h with ⟨rfl, e2, _⟩ | ⟨n, h⟩
    · cases e2; exact ⟨v, hv, r⟩
    · obtain ⟨v', h1, h2⟩ := w.sl j d2 h
      refine ⟨v', h1, RpD.mono (Ex.refl B) h2 fun a ha u hu => ?_⟩
      rw [upd_ne fun q => n (w.dj i j a (by rw [q]; exact hl) ha)]
      exact hu
  · refine w.no j fun d2 h => ?_
    by_cases q : i = j
    · subst q; exact hn d' (List.getElem?_set_self (env_lt e))
    · exact hn d2 (by rw [List.getElem?_set_ne q]; exact h)
  · rw [upd_ne fun q => n i (by rw [q]; exact hl)]; exact h
  · by_cases q : a = l
    · subst q; exact ⟨_, upd_same⟩
    · exact ⟨u, by rw [upd_ne q]; exact h⟩
theorem Wd.app {B H : Hp} {σ : L2.St} {env : Env} {G : Fp} {i : Nat} {ps : List P} {l : Addr} {vs : List V} {p : P} {y : V} (w : Wd K B H σ env G) (e : env[i]? = some (some (.ol ps))) (hv : σ[i]? = some (some (.ref l))) (hG : G i = [l]) (hl : H l = some (.lst vs)) (r : RpA K B ps vs) (rp : Rp K B p y) :
    Wd K B (upd H l (.lst (vs ++ [y]))) σ (env.set i (some (.ol (ps ++ [p])))) G ∧ Stp B H G B (upd H l (.lst (vs ++ [y]))) G :=
  w.chg e hv (by rw [hG]; exact List.mem_cons_self) ⟨l, _, hG, rfl, upd_same, r.append (RpA.one rp)⟩
/-- i.append(e) -/
def dApp (i : Nat) (de : dE) : dS := fun Dd env => match env[i]? with
  | some (some (.ol _)) => de env fun p e => match e[i]? with
    | some (some (.ol ps)) => ps.length < sizeLine ∧ Dd.nx (e.set i (some (.ol (ps ++ [p]))))
    | _ => False
  | _ => False
theorem snd_app {i : Nat} (h : SndE m K te de) : SndS pn K (tDrop (tBM K "list" rAppend (tVar i) (tCons te tNil))) (dApp i de) := ⟨fun {B H σ env G Dd D} w q n r k1 k2 => by
  unfold dApp at q
  split at q
  · rename_i ps0 hd
    obtain ⟨v, h1, a0, vs0, _, rfl, h4, _⟩ := w.sl i _ hd
    refine ⟨.ref a0, h1, .inl ⟨rfl, _, SqL.of h4⟩, ?_⟩
    refine h.run w q fun p e v2 B1 H1 G1 q1 w1 r1 s1 _ => ?_
    change (match e[i]? with | some (some (.ol ps)) => ps.length < sizeLine ∧ Dd.nx (e.set i (some (.ol (ps ++ [p])))) | _ => False) at q1
    split at q1
    · rename_i ps hd1
      obtain ⟨v3, g1, a1, vs, g2, g3, g4, g5⟩ := w1.sl i _ hd1
      rw [h1] at g1
      cases g1
      cases g3
      refine ⟨a0, vs, v2, rfl, rfl, g4, by rw [g5.length]; exact q1.1, ?_⟩
      obtain ⟨w2, s2⟩ := w1.app hd1 h1 g2 g4 g5 r1
      exact n _ σ B1 _ G1 q1.2 w2 (s1.trans s2) .refl
    · exact q1.elim
  · exact q.elim⟩
theorem ds_app {i : Nat} {o : Expr} {apos cpos : Pos} (h : PA X [e] (tCons te tNil) → PE X (.Call (.Attribute o "append" apos) [e] [] cpos) (tBM X.K "list" rAppend (tVar i) (tCons te tNil))) (he : DE false X e te de)
    (hs : swapsWith (.Call (.Attribute o "append" apos) [e] [] cpos) none pos.line X.env = pure false := by rfl) (hs2 : starEach [e] X.env = (false, eval e X.env) :: starEach [] X.env := by rfl) :
    DS pn X (.Expr (.Call (.Attribute o "append" apos) [e] [] cpos) pos) (tDrop (tBM X.K "list" rAppend (tVar i) (tCons te tNil))) (dApp i de) := ⟨ps_expr (h (pa_cons he.pe pa_nil hs2)) hs, snd_app he.sd⟩
/-- i[k] = e -/
def dSetI (i : Nat) (dk de : dE) : dS := fun Dd env => de env fun p e1 => match e1[i]? with
  | some (some (.ol _)) => dk e1 fun q e2 => ixQ q e2[i]? fun k ps => ∃ j, ixN ps.length k = some j ∧ Dd.nx (e2.set i (some (.ol (ps.set j p))))
  | _ => False
theorem snd_setI {i : Nat} (hk : SndE m K ti di) (h : SndE m K te de) : SndS pn K (tAsg te (gSub (tVar i) ti rSetL)) (dSetI i di de) := ⟨fun {B H σ env G Dd D} w q n r k1 k2 => by
  refine h.run w q fun p e1 v2 B1 H1 G1 q1 w1 r1 s1 _ => ?_
  change (match e1[i]? with | some (some (.ol _)) => di e1 _ | _ => False) at q1
  split at q1
  · rename_i ps0 hd
    obtain ⟨v, h1, a0, vs0, _, rfl, h4, _⟩ := w1.sl i _ hd
    refine ⟨.ref a0, h1, ?_⟩
    refine hk.run w1 q1 fun q e2 v3 B2 H2 G2 q2 w2 r2 s2 _ => ?_
    obtain ⟨k, ps, rfl, hd2, q2⟩ := ixQ_is q2
    · obtain ⟨v4, g1, a1, vs, g2, g3, g4, g5⟩ := w2.sl i _ hd2
      rw [h1] at g1
      cases g1
      cases g3
      obtain ⟨j, hj, q2⟩ := q2
      refine ⟨a0, vs, k, j, rfl, r2, g4, by rw [g5.length]; exact hj, ?_⟩
      obtain ⟨w3, s3⟩ := w2.chg (d' := .ol (ps.set j p)) (o := .lst (vs.set j v2)) (l := a0) hd2 h1 (by rw [g2]; exact List.mem_cons_self) ⟨a0, _, g2, rfl, upd_same, g5.set (Rp.mono s2.ex p r1)⟩
      exact n _ σ B2 _ G2 q2 w3 ((s1.trans s2).trans s3) .refl
  · exact q1.elim⟩
theorem ds_setI {i : Nat} {tg : Expr} (hg : PE X b ti → PG X tg (gSub (tVar i) ti rSetL)) (hk : DE false X b ti di) (he : DE false X e te de)
    (hs : swapsWithSole [tg] e pos.line X.env = pure false := by rfl) (hw : swappedStores [tg] e X.env = pure none := by rfl) (h1 : (assignEach [tg] X.env).map (·.2) = [assign tg X.env] := by rfl) :
    DS pn X (.Assign [tg] e pos) (tAsg te (gSub (tVar i) ti rSetL)) (dSetI i di de) := ⟨ps_asg he.pe (hg hk.pe) hs hw h1, snd_setI hk.sd he.sd⟩

/-! ### an own list, read and let go -/
def scl : P → Prop
  | .non => True
  | .bl _ => True
  | .int _ => True
  | .str _ => True
  | .ob _ => True
  | _ => False
theorem scl_rp {B B' : Hp} {p : P} {v : V} (h : scl p) (r : Rp K B p v) : Rp K B' p v := by
  cases p <;> first | exact r | exact h.elim
def dLend (i : Nat) (de : dE) : dE := fun env Q => match env[i]? with
  | some (some d) => de (env.set i (some (.sh d.frz))) fun p _ => scl p ∧ Q p env
  | _ => False
theorem Wd.lent {B H : Hp} {σ : L2.St} {env : Env} {G : Fp} {i : Nat} {d : D} (w : Wd K B H σ env G) (e : env[i]? = some (some d)) :
    Wd K (frzB B H (G i)) H σ (env.set i (some (.sh d.frz))) (fun j => if j = i then [] else G j) := by
  obtain ⟨v, h1, h2⟩ := w.sl i _ e
  have nb : ∀ a ∈ G i, B a = none := fun a ha => w.nb i a ha
  have w1 := (w.drop i).frzO (F := G i) nb (fun a ha j hj => by
    change a ∈ (if j = i then [] else G j) at hj
    split at hj
    · cases hj
    · rename_i n; exact n (w.dj j i a hj ha))
  have w2 := w1.put (i := i) (d := .sh d.frz) (v := v) (F := []) (by rw [List.length_set]; exact env_lt e) ⟨rfl, frz_rp nb h2⟩ List.nodup_nil (fun _ h => absurd h List.not_mem_nil) (fun _ h => absurd h List.not_mem_nil)
  rw [set_id h1, List.set_set] at w2
  have : (fun j => if j = i then ([] : List Addr) else if j = i then [] else G j) = fun j => if j = i then [] else G j := by
    funext j; split <;> rfl
  rw [this] at w2
  exact w2
theorem snd_lend {i : Nat} (h : SndE true K te de) : SndE m K te (dLend i de) := ⟨fun {B H σ env G QD Q} w q k => by
  unfold dLend at q
  split at q
  · rename_i d hd
    refine h.run (w.lent hd) q fun p e v B1 H1 G1 q1 w1 r1 s1 u1 => ?_
    obtain ⟨_, _, g⟩ := u1 rfl
    have g2 : Gr B H B H1 := ⟨Ex.refl _, g.h, w.ex.trans g.h, fun a o h n => n⟩
    exact k p env v B H1 G q1.2 (w.gr g2) (scl_rp q1.1 r1) g2.stp (.gr g2)
  · exact q.elim⟩
theorem de_lend (i : Nat) (h : DE true X a te de) : DE m X a te (dLend i de) := ⟨h.pe, snd_lend h.sd⟩
def dLendT (i : Nat) (de : dT) : dT := fun env Q => match env[i]? with
  | some (some d) => de (env.set i (some (.sh d.frz))) fun p _ => Q p env
  | _ => False
theorem snd_lendT {i : Nat} (h : SndT true K tt dt) : SndT m K tt (dLendT i dt) := ⟨fun {B H σ env G QD Q} w q k => by
  unfold dLendT at q
  split at q
  · rename_i d hd
    refine h.run (w.lent hd) q fun b e B1 H1 G1 q1 w1 s1 u1 => ?_
    obtain ⟨_, _, g⟩ := u1 rfl
    have g2 : Gr B H B H1 := ⟨Ex.refl _, g.h, w.ex.trans g.h, fun a o h n => n⟩
    exact k b env B H1 G q1 (w.gr g2) g2.stp (.gr g2)
  · exact q.elim⟩
theorem dt_lend (i : Nat) (h : DT true X a tt dt) : DT m X a tt (dLendT i dt) := ⟨h.pe, snd_lendT h.sd⟩
/-- i[k] of an own list: the item is plain -/
def dItm (i : Nat) (dk : dE) : dE := fun env Q => match env[i]? with
  | some (some (.ol _)) => dk env fun q e => ixQ q e[i]? fun k ps => ∃ p, atI ps k = some p ∧ Q p e
  | _ => False
theorem atI_rp {B : Hp} {ps : List P} {vs : List V} {k : Int} {p : P} (r : RpA K B ps vs) (h : atI ps k = some p) : ∃ v, atI vs k = some v ∧ Rp K B p v := by
  unfold atI at h ⊢
  rw [r.length]
  cases hx : ixN ps.length k with
  | none => rw [hx] at h; cases h
  | some j =>
    rw [hx] at h
    exact r.get h
theorem snd_itm {i : Nat} (hk : SndE m K ti di) : SndE m K (tOp (rIxL K) (tVar i) ti) (dItm i di) := ⟨fun {B H σ env G QD Q} w q k => by
  unfold dItm at q
  split at q
  · rename_i ps0 hd
    obtain ⟨v, h1, a0, vs0, _, rfl, h4, _⟩ := w.sl i _ hd
    refine ⟨.ref a0, h1, ?_⟩
    refine hk.run w q fun q e2 v3 B2 H2 G2 q2 w2 r2 s2 u2 => ?_
    obtain ⟨kk, ps, rfl, hd2, q2⟩ := ixQ_is q2
    · obtain ⟨v4, g1, a1, vs, g2, g3, g4, g5⟩ := w2.sl i _ hd2
      rw [h1] at g1
      cases g1
      cases g3
      obtain ⟨p, hp, q2⟩ := q2
      obtain ⟨z, hz, rz⟩ := atI_rp g5 hp
      exact ⟨a0, vs, kk, z, rfl, r2, SqL.of g4, hz, k p e2 z B2 H2 G2 q2 w2 rz s2 u2⟩
  · exact q.elim⟩
theorem de_itm (i : Nat) (h : PE X b ti → PE X e (tOp (rIxL X.K) (tVar i) ti)) (hk : DE m X b ti di) : DE m X e (tOp (rIxL X.K) (tVar i) ti) (dItm i di) := ⟨h hk.pe, snd_itm hk.sd⟩

/-! ### loops -/
/-- what a walk yields, wherever it goes on from B0 -/
def ItOk (K : PySem.W.Frag) (J : It) (B0 : Hp) (ps : List P) : Prop := ∀ (B H : Hp) (i : Nat), Ex B0 B → Ex B H → i ≤ ps.length →
  (∀ p, ps[i]? = some p → J.go i H ∧ ∀ x H', J.yld i H x H' → ∃ B', Gr B H B' H' ∧ Rp K B' p x) ∧ (ps.length ≤ i → J.stop i H)
abbrev dI := Env → (List P → Env → Prop) → Prop
structure SndI (m : Bool) (K : PySem.W.Frag) (wi : TI) (di : dI) : Prop where
  run : ∀ {B H : Hp} {σ : L2.St} {env : Env} {G : Fp} {QD : List P → Env → Prop} {R : It → Hp → Prop}, Wd K B H σ env G → di env QD →
    (∀ ps env' B' H' G' J, QD ps env' → Wd K B' H' σ env' G' → Stp B H G B' H' G' → Pure m env env' G G' B H B' H' → ItOk K J B' ps → R J H') → wi σ H R
structure DI (m : Bool) (X : Cx) (tg iter : Expr) (wi : TI) (di : dI) : Prop where
  pe : PI X tg iter wi
  sd : SndI m X.K wi di
def dFor (di : dI) (dg : dG) (body : dS) : dS := fun Dd env => di env fun ps env1 => ∃ Inv : Nat → Env → Prop, Inv 0 env1 ∧
  (∀ i p e, ps[i]? = some p → Inv i e → dg p e fun e2 => body { Dd with nx := Inv (i + 1), ct := Inv (i + 1), bk := Dd.nx } e2) ∧ ∀ e, Inv ps.length e → Dd.nx e
variable {wi : TI} {dw : dI} {g : TG} {dg : dG}
theorem snd_for (hi : SndI m K wi dw) (hg : SndG pn K g dg) (hb : SndS pn K t dt1) : SndS pn K (tFor wi g t) (dFor dw dg dt1) := ⟨fun {B H σ env G Dd D} w q n r k1 k2 => by
  refine hi.run w q fun ps env1 B1 H1 G1 J q1 w1 s1 _ hJ => ?_
  obtain ⟨Inv, i0, turn, done⟩ := q1
  let W : Nat → L2.St → Hp → Prop := fun i σ' H' => ∃ env' B' G', Inv i env' ∧ Wd K B' H' σ' env' G' ∧ Stp B1 H1 G1 B' H' G' ∧ Pin pn σ σ'
  refine ⟨fun i mm σ' H' => mm = ps.length - i ∧ i ≤ ps.length ∧ W i σ' H', ⟨_, rfl, Nat.zero_le _, env1, B1, G1, i0, w1, .refl, .refl⟩, ?_⟩
  rintro i mm σ' H' ⟨rfl, hle, env', B', G', hI, w', s', p'⟩
  obtain ⟨hgo, hst⟩ := hJ B' H' i s'.ex w'.ex hle
  by_cases hlt : i < ps.length
  · obtain ⟨go, yl⟩ := hgo ps[i] (List.getElem?_eq_getElem hlt)
    refine .inr ⟨go, W (i + 1), fun σ2 H2 h2 => ⟨ps.length - (i + 1), by omega, rfl, hlt, h2⟩, fun x H2 y => ?_⟩
    obtain ⟨B2, g2, r2⟩ := yl x H2 y
    have w2 := w'.gr g2
    have s2 := s'.trans (g2.stp (G := G'))
    refine hg.run w2 r2 (turn i ps[i] env' (List.getElem?_eq_getElem hlt) hI) fun env3 σ3 G3 q3 w3 g3 p3 => ?_
    have st3 := s2.trans (stp_g g3)
    have pi3 := p'.trans p3
    refine hb.run (D := { D with nx := W (i + 1), ct := W (i + 1), bk := D.nx }) w3 q3 ?_ ?_ ?_ ?_
    · exact fun env4 σ4 B4 H4 G4 q4 w4 s4 p4 => ⟨env4, B4, G4, q4, w4, st3.trans s4, pi3.trans p4⟩
    · exact r.at (s1.trans st3) pi3
    · exact n.at (s1.trans st3) pi3
    · exact fun env4 σ4 B4 H4 G4 q4 w4 s4 p4 => ⟨env4, B4, G4, q4, w4, st3.trans s4, pi3.trans p4⟩
  · have e : i = ps.length := by omega
    subst e
    exact .inl ⟨hst (Nat.le_refl _), n env' σ' B' H' G' (done env' hI) w' (s1.trans s') p'⟩⟩
theorem ds_for {tg iter : Expr} {body : List Stmt} (hp : PassesOwn (model X.prog X.w) X.A X.env X.xe) (hc : X.calm = true) (hi : DI false X tg iter wi dw) (hg : DG pn X tg g dg) (hb : DSs pn X body t dt1)
    (hs : ∀ x, foldedSetIterable iter X.env x = pure x := by intro _; rfl) : DS pn X (.For tg iter body [] pos) (tFor wi g t) (dFor dw dg dt1) := ⟨ps_for hp hc hi.pe hg.pe hb.pe hs, snd_for hi.sd hg.sd hb.sd⟩
def dWhile (dt : dT) (body : dS) : dS := fun Dd env => ∃ W : Nat → Env → Prop, (∃ m, W m env) ∧ ∀ m e, W m e → dt e fun b e1 => cnd b (body { Dd with nx := fun e2 => ∃ m', m' < m ∧ W m' e2, ct := fun e2 => ∃ m', m' < m ∧ W m' e2, bk := Dd.nx } e1) (Dd.nx e1)
theorem snd_while (hc : SndT m K tt dt) (hb : SndS pn K t dt1) : SndS pn K (tWhile tt t) (dWhile dt dt1) := ⟨fun {B H σ env G Dd D} w q n r k1 k2 => by
  obtain ⟨W, ⟨m0, w0⟩, turn⟩ := q
  let Wx : Nat → L2.St → Hp → Prop := fun mm σ' H' => ∃ env' B' G', W mm env' ∧ Wd K B' H' σ' env' G' ∧ Stp B H G B' H' G' ∧ Pin pn σ σ'
  refine ⟨Wx, ⟨m0, env, B, G, w0, w, .refl, .refl⟩, ?_⟩
  rintro mm σ' H' ⟨env', B', G', hI, w', s', p'⟩
  refine hc.run w' (turn mm env' hI) fun b e1 B1 H1 G1 q1 w1 s1 _ => ?_
  have st := s'.trans s1
  cases b with
  | true =>
    replace q1 := q1.1 rfl
    rw [if_pos rfl]
    refine ⟨fun σ2 H2 => ∃ m', m' < mm ∧ Wx m' σ2 H2, fun _ _ h => h, ?_⟩
    refine hb.run (D := { D with nx := fun σ2 H2 => ∃ m', m' < mm ∧ Wx m' σ2 H2, ct := fun σ2 H2 => ∃ m', m' < mm ∧ Wx m' σ2 H2, bk := D.nx }) w1 q1 ?_ (r.at st p') (n.at st p') ?_
    · exact fun env4 σ4 B4 H4 G4 ⟨m', hm, q4⟩ w4 s4 p4 => ⟨m', hm, env4, B4, G4, q4, w4, st.trans s4, p'.trans p4⟩
    · exact fun env4 σ4 B4 H4 G4 ⟨m', hm, q4⟩ w4 s4 p4 => ⟨m', hm, env4, B4, G4, q4, w4, st.trans s4, p'.trans p4⟩
  | false =>
    replace q1 := q1.2 rfl
    rw [if_neg Bool.false_ne_true]
    exact n e1 σ' B1 H1 G1 q1 w1 st p'⟩
theorem ds_while {body : List Stmt} (hp : PassesOwn (model X.prog X.w) X.A X.env X.xe) (hc : DT false X c tt dt) (hb : DSs pn X body t dt1) : DS pn X (.While c body [] pos) (tWhile tt t) (dWhile dt dt1) := ⟨ps_while hp hc.pe hb.pe, snd_while hc.sd hb.sd⟩

/-! ### what is walked -/
def plst : P → Option (List P)
  | .lst ps => some ps
  | .rol ps => some ps
  | _ => none
def diL (de : dE) : dI := fun env Q => de env fun p e => match plst p with
  | some ps => Q ps e
  | none => False
theorem plst_rp {B : Hp} {p : P} {v : V} {ps : List P} (r : Rp K B p v) (h : plst p = some ps) : ∃ a vs, v = .ref a ∧ SqL K B a vs ∧ RpA K B ps vs := by
  cases p with
  | lst qs => cases h; obtain ⟨a, vs, e1, e2, e3⟩ := r; exact ⟨a, vs, e1, SqL.of e2, e3⟩
  | rol qs => cases h; obtain ⟨a, vs, e1, e2, e3⟩ := r; exact ⟨a, vs, e1, e2, e3⟩
  | _ => cases h
/-- a list that is plain is one list, whatever is told of it -/
theorem snd_il (h : SndE m K te de) : SndI m K (iList K te) (diL de) := ⟨fun {B H σ env G QD R} w q k => h.run w q fun p e v B1 H1 G1 q1 w1 r1 s1 u1 => by
  change (match plst p with | some ps => QD ps e | none => False) at q1
  split at q1
  · rename_i ps hp
    obtain ⟨a, vs, rfl, h2, h3⟩ := plst_rp r1 hp
    refine ⟨a, rfl, ⟨vs, w1.ex.sqL h2⟩, k ps e B1 H1 G1 _ q1 w1 s1 u1 fun B' H' i e1 e2 _ => ⟨fun p hp => ?_, fun hle => ⟨vs, (e1.trans e2).sqL h2, by rw [h3.length]; exact hle⟩⟩⟩
    obtain ⟨x, hx, rx⟩ := h3.get hp
    refine ⟨⟨vs, x, (e1.trans e2).sqL h2, hx⟩, fun y H2 hy => ?_⟩
    obtain ⟨rfl, hy⟩ := hy
    have := hy vs ((e1.trans e2).sqL h2)
    rw [hx] at this
    cases this
    exact ⟨B', .refl e2, Rp.mono e1 _ rx⟩
  · exact q1.elim⟩
end
end DL
set_option Elab.async false
set_option linter.all false
set_option maxRecDepth 100000
namespace DL
open PySem PySem.Spec L2
section
variable {pn : List Nat} {m : Bool} {K : PySem.W.Frag} {te ta tb ti to : TE} {de da db di : dE} {dq : dO} {tt : TT} {dt : dT} {t u : TS} {dt1 du : dS} {X : Cx} {a b c e : Expr} {st : Stmt} {rest sb : List Stmt} {pos : Pos}
variable {wi : TI} {dw : dI} {g : TG} {dg : dG}
/-! ### comprehensions -/
def lenE : Nat → Env → Bool
  | _, [] => true
  | 0, _ :: _ => false
  | n + 1, _ :: e => lenE n e
theorem lenE_le : ∀ {n : Nat} {e : Env}, lenE n e = true → e.length ≤ n
  | _, [], _ => Nat.zero_le _
  | 0, _ :: _, h => by cases h
  | n + 1, _ :: e, h => Nat.succ_le_succ (lenE_le (n := n) (e := e) h)
def wipeE (e : Env) : List Nat → Env
  | [] => e
  | v :: vs => (wipeE e vs).set v none
def wipeG (G : Fp) : List Nat → Fp
  | [] => G
  | v :: vs => fun j => if j = v then [] else wipeG G vs j
theorem wipeG_sub {G : Fp} : ∀ {vs : List Nat} {i : Nat} {a : Addr}, a ∈ wipeG G vs i → a ∈ G i
  | [], _, _, h => h
  | v :: vs, i, a, h => by
    change a ∈ (if i = v then [] else wipeG G vs i) at h
    split at h
    · cases h
    · exact wipeG_sub h
theorem Wd.setN {B H : Hp} {σ : L2.St} {env : Env} {G : Fp} {i : Nat} {x : Option V} (w : Wd K B H σ env G) (n : ∀ d, env[i]? ≠ some (some d)) : Wd K B H (σ.set i x) env G where
  ex := w.ex
  sl := fun j d e => by
    obtain ⟨v, h1, h2⟩ := w.sl j d e
    refine ⟨v, ?_, h2⟩
    rw [List.getElem?_set_ne fun q => n d (by rw [q]; exact e)]
    exact h1
  no := w.no
  nd := w.nd
  dj := w.dj
  nb := w.nb
  len := by rw [List.length_set]; exact w.len
theorem wipeE_none {e : Env} : ∀ {vs : List Nat} {i : Nat}, i ∈ vs → ∀ d, (wipeE e vs)[i]? ≠ some (some d)
  | v :: vs, i, h, d, q => by
    change ((wipeE e vs).set v none)[i]? = _ at q
    rcases set_some q with ⟨_, e2, _⟩ | ⟨n, q⟩
    · cases e2
    · rcases List.mem_cons.mp h with h | h
      · exact n h.symm
      · exact wipeE_none h d q
theorem Wd.wipe {B H : Hp} {σ : L2.St} {env : Env} {G : Fp} (w : Wd K B H σ env G) : ∀ vs : List Nat, Wd K B H (L2.wipe σ vs) (wipeE env vs) (wipeG G vs)
  | [] => w
  | v :: vs => by
    have w1 := (Wd.wipe w vs).drop v
    refine Wd.setN w1 fun d q => ?_
    rcases set_some q with ⟨_, e2, _⟩ | ⟨n, q⟩
    · cases e2
    · exact n rfl
/-- the names of the block are nothing to the slots around it -/
theorem Wd.unwipe {B H : Hp} {σ σ2 : L2.St} {env : Env} {G : Fp} {vs : List Nat} (w : Wd K B H σ2 env G) (h : L2.wipe σ2 vs = L2.wipe σ vs) (hl : σ2.length = σ.length) : Wd K B H σ (wipeE env vs) (wipeG G vs) := by
  have w1 := w.wipe vs
  rw [h] at w1
  refine ⟨w1.ex, fun j d e => ?_, w1.no, w1.nd, w1.dj, w1.nb, by rw [← hl, ← w.len]; exact (show (wipeE env vs).length = env.length from by
    clear w1 h w
    induction vs with
    | nil => rfl
    | cons v vs ih => show ((wipeE env vs).set v none).length = _; rw [List.length_set, ih])⟩
  obtain ⟨v, h1, h2⟩ := w1.sl j d e
  exact ⟨v, (L2.wipe_some h1).1, h2⟩
theorem wipe_get {σ : L2.St} : ∀ (vs : List Nat) (i : Nat), (L2.wipe σ vs)[i]? = if i ∈ vs ∧ i < σ.length then some none else σ[i]?
  | [], i => by simp [L2.wipe]
  | v :: vs, i => by
    show ((L2.wipe σ vs).set v none)[i]? = _
    by_cases h : v = i
    · subst h
      by_cases hl : v < σ.length
      · rw [List.getElem?_set_self (by rw [L2.wipe_length]; exact hl), if_pos ⟨List.mem_cons_self, hl⟩]
      · rw [List.getElem?_eq_none (by rw [List.length_set, L2.wipe_length]; omega), if_neg fun q => hl q.2, List.getElem?_eq_none (by omega)]
    · rw [List.getElem?_set_ne h, wipe_get vs i]
      have : i ∈ v :: vs ↔ i ∈ vs := ⟨fun q => (List.mem_cons.mp q).elim (fun z => absurd z.symm h) id, List.mem_cons_of_mem _⟩
      simp only [this]
/-- the slots besides vs, of n -/
def others (n : Nat) (vs : List Nat) : List Nat := (List.range n).filter fun i => !vs.contains i
theorem wipe_pin {σ σ2 : L2.St} {n : Nat} {vs : List Nat} (h : Pin (others n vs) (L2.wipe σ vs) σ2) (hn : σ.length ≤ n) : L2.wipe σ2 vs = L2.wipe σ vs := by
  apply List.ext_getElem?
  intro i
  have hl := h.1
  rw [L2.wipe_length] at hl
  rw [wipe_get, wipe_get, hl]
  by_cases hi : i ∈ vs ∧ i < σ.length
  · rw [if_pos hi, if_pos hi]
  · rw [if_neg hi, if_neg hi]
    by_cases hlt : i < σ.length
    · have hv : i ∉ vs := fun q => hi ⟨q, hlt⟩
      have := h.2 i (List.mem_filter.mpr ⟨List.mem_range.mpr (by omega), by simpa using hv⟩)
      rw [this, wipe_get, if_neg hi]
    · rw [List.getElem?_eq_none (by omega), List.getElem?_eq_none (by omega)]
/-- the list that grows: no slot's, not plain yet -/
structure Acc (K : PySem.W.Frag) (B H : Hp) (G : Fp) (l : Addr) (ps : List P) : Prop where
  at_ : ∃ vs, H l = some (.lst vs) ∧ RpA K B ps vs
  nb : B l = none
  ap : ∀ i, l ∉ G i
theorem Acc.stp {B H B' H' : Hp} {G G' : Fp} {l : Addr} {ps : List P} (a : Acc K B H G l ps) (s : Stp B H G B' H' G') : Acc K B' H' G' l ps := by
  obtain ⟨vs, h1, h2⟩ := a.at_
  refine ⟨⟨vs, s.kp l _ h1 a.ap, RpA.mono s.ex ps h2⟩, s.bs l _ h1 a.nb a.ap, fun i hi => ?_⟩
  rcases s.fp i l hi with ⟨j, hj⟩ | hn
  · exact a.ap j hj
  · rw [h1] at hn; cases hn
theorem Acc.wd {B H : Hp} {σ : L2.St} {env : Env} {G : Fp} {l : Addr} {ps : List P} {u : HO} (a : Acc K B H G l ps) (w : Wd K B H σ env G) : Wd K B (upd H l u) σ env G where
  ex := fun x o h => by rw [upd_ne (ne_of_none h a.nb)]; exact w.ex x o h
  sl := fun i d e => by
    obtain ⟨v, h1, h2⟩ := w.sl i d e
    refine ⟨v, h1, RpD.mono (Ex.refl B) h2 fun x hx o ho => ?_⟩
    rw [upd_ne fun q => a.ap i (by rw [← q]; exact hx)]
    exact ho
  no := w.no
  nd := w.nd
  dj := w.dj
  nb := w.nb
  len := w.len
def dLc (di : dI) (dg : dG) (dt : dT) (de : dE) (n : Nat) (vs : List Nat) : dO := fun env Q => di env fun ps env1 => lenE n env1 = true ∧ ∃ Inv : Nat → List P → Env → Prop, Inv 0 [] env1 ∧
  (∀ i p acc e, ps[i]? = some p → Inv i acc e → dg p (wipeE e vs) fun e2 => dt e2 fun b e3 => cnd b (de e3 fun y e4 => acc.length < sizeLine ∧ Inv (i + 1) (acc ++ [y]) (wipeE e4 vs)) (Inv (i + 1) acc (wipeE e3 vs))) ∧
  ∀ acc e, Inv ps.length acc e → Q (.ol acc) e
/-- from one world to another, the growing list aside -/
structure St2 (B H : Hp) (G : Fp) (l : Addr) (B' H' : Hp) (G' : Fp) : Prop where
  ex : Ex B B'
  kp : ∀ a o, H a = some o → (∀ i, a ∉ G i) → H' a = some o
  fp : ∀ i a, a ∈ G' i → (∃ j, a ∈ G j) ∨ H a = none
  bs : ∀ a o, H a = some o → B a = none → (∀ i, a ∉ G i) → B' a = none
  th : ∀ a o, H a = some o → ∃ o', H' a = some o'
theorem stp_new {B H : Hp} {G : Fp} {l : Addr} {u : HO} (h : H l = none) : Stp B H G B (upd H l u) G :=
  ⟨Ex.refl _, fun a o k _ => by rw [upd_ne (ne_of_none k h)]; exact k, fun i a k => .inl ⟨i, k⟩, fun _ _ _ k _ => k, fun a o k => ⟨o, by rw [upd_ne (ne_of_none k h)]; exact k⟩⟩
/-- what was there at the start is kept while the new list at l grows -/
theorem Stp.grow {B H B' H' : Hp} {G G' : Fp} {l : Addr} {u : HO} (s : Stp B H G B' H' G') (h : H l = none) : Stp B H G B' (upd H' l u) G' :=
  ⟨s.ex, fun a o k n => by rw [upd_ne (ne_of_none k h)]; exact s.kp a o k n, s.fp, s.bs, fun a o k => by
    obtain ⟨o', e⟩ := s.th a o k
    exact ⟨o', by rw [upd_ne (ne_of_none k h)]; exact e⟩⟩
theorem Stp.wipeG {B H B' H' : Hp} {G G' : Fp} {vs : List Nat} (s : Stp B H G B' H' G') : Stp B H G B' H' (DL.wipeG G' vs) := ⟨s.ex, s.kp, fun i a k => s.fp i a (wipeG_sub k), s.bs, s.th⟩
theorem snd_lc {n : Nat} {vs : List Nat} (hi : SndI m K wi dw) (hg : SndG (others n vs) K g dg) (ht : SndT m K tt dt) (he : SndE m K te de) : SndO false K (tLc wi g tt te vs) (dLc dw dg dt de n vs) := ⟨fun {B H σ env G QD Q} w q k => by
  refine hi.run w q fun ps env1 B1 H1 G1 J q1 w1 s1 _ hJ => ?_
  obtain ⟨hn, Inv, i0, turn, done⟩ := q1
  have hσ : σ.length ≤ n := by rw [← w1.len]; exact lenE_le hn
  intro l hl
  -- the invariant of the loop
  let Wx : Nat → Hp → Prop := fun i H' => ∃ acc env' B' G', Inv i acc env' ∧ Wd K B' H' σ env' G' ∧ Stp B1 H1 G1 B' H' G' ∧ Acc K B' H' G' l acc
  refine ⟨fun i mm H' => mm = ps.length - i ∧ i ≤ ps.length ∧ Wx i H', ⟨_, rfl, Nat.zero_le _, [], env1, B1, G1, i0, ?_, stp_new hl, ⟨⟨[], upd_same, rfl⟩, w1.ex.back hl, fun i hi => w1.off hl i hi⟩⟩, ?_⟩
  · exact w1.gr ⟨Ex.refl _, fun a u k => by rw [upd_ne (ne_of_none k hl)]; exact k, fun a u k => by rw [upd_ne (ne_of_none (w1.ex a u k) hl)]; exact w1.ex a u k, fun a u k n => n⟩
  rintro i mm H' ⟨rfl, hle, acc, env', B', G', hI, w', s', a'⟩
  obtain ⟨hgo, hst⟩ := hJ B' H' i s'.ex w'.ex hle
  by_cases hlt : i < ps.length
  · obtain ⟨go, yl⟩ := hgo ps[i] (List.getElem?_eq_getElem hlt)
    refine .inr ⟨go, Wx (i + 1), fun H2 h2 => ⟨ps.length - (i + 1), by omega, rfl, hlt, h2⟩, fun x H2 y => ?_⟩
    obtain ⟨B2, g2, r2⟩ := yl x H2 y
    have w2 := (w'.gr g2).wipe vs
    have s2 := (s'.trans (g2.stp (G := G'))).wipeG (vs := vs)
    have a2 := a'.stp (G' := wipeG G' vs) ((g2.stp (G := G')).wipeG (vs := vs))
    refine hg.run w2 r2 (turn i ps[i] acc env' (List.getElem?_eq_getElem hlt) hI) fun env3 σ3 G3 q3 w3 g3 p3 => ?_
    have hw3 := wipe_pin p3 hσ
    have hl3 : σ3.length = σ.length := by rw [p3.1, L2.wipe_length]
    refine ⟨hw3, ?_⟩
    have s3 := s2.trans (stp_g g3)
    have a3 := a2.stp (stp_g g3)
    refine ht.run w3 q3 fun bb env4 B4 H4 G4 q4 w4 s4 _ => ?_
    have st4 := s3.trans s4
    have a4 := a3.stp s4
    cases bb with
    | true =>
      replace q4 := q4.1 rfl
      rw [if_pos rfl]
      refine he.run w4 q4 fun p5 env5 v5 B5 H5 G5 q5 w5 r5 s5 _ => ?_
      have st5 := st4.trans s5
      have a5 := a4.stp s5
      obtain ⟨vs5, h5, rp5⟩ := a5.at_
      refine ⟨vs5, h5, by rw [rp5.length]; exact q5.1, acc ++ [p5], wipeE env5 vs, B5, wipeG G5 vs, q5.2, ?_, ?_, ?_⟩
      · have a6 : Acc K B5 H5 (wipeG G5 vs) l acc := ⟨a5.at_, a5.nb, fun i hi => a5.ap i (wipeG_sub hi)⟩
        exact a6.wd (w5.unwipe hw3 hl3)
      · exact (st5.wipeG).grow hl
      · exact ⟨⟨_, upd_same, rp5.append (RpA.one r5)⟩, a5.nb, fun i hi => a5.ap i (wipeG_sub hi)⟩
    | false =>
      replace q4 := q4.2 rfl
      rw [if_neg Bool.false_ne_true]
      exact ⟨acc, wipeE env4 vs, B4, wipeG G4 vs, q4, w4.unwipe hw3 hl3, st4.wipeG, ⟨a4.at_, a4.nb, fun i hi => a4.ap i (wipeG_sub hi)⟩⟩
  · have e : i = ps.length := by omega
    subst e
    obtain ⟨vs5, h5, rp5⟩ := a'.at_
    exact .inl ⟨hst (Nat.le_refl _), k (.ol acc) env' (.ref l) [l] B' H' G' (done acc env' hI) w' ⟨⟨l, vs5, rfl, rfl, h5, rp5⟩, by simp, fun a ha => by rw [List.mem_singleton.mp ha]; exact a'.nb, fun a ha => by
      rw [List.mem_singleton.mp ha]
      exact .inr (s1.back hl), fun a ha j hj => by rw [List.mem_singleton.mp ha] at hj; exact a'.ap j hj⟩ (s1.trans s') .off⟩⟩
/-- the same where an item changes nothing -/
def dLcP (di : dI) (dg : dG) (dt : dT) (de : dE) (n : Nat) (vs : List Nat) : dO := fun env Q => di env fun ps env1 => lenE n env1 = true ∧ ∃ Inv : Nat → List P → Prop, Inv 0 [] ∧
  (∀ i p acc, ps[i]? = some p → Inv i acc → dg p (wipeE env1 vs) fun e2 => dt e2 fun b e3 => cnd b (de e3 fun y _ => acc.length < sizeLine ∧ Inv (i + 1) (acc ++ [y])) (Inv (i + 1) acc)) ∧
  ∀ acc, Inv ps.length acc → Q (.ol acc) env1
theorem snd_lcP {n : Nat} {vs : List Nat} (hi : SndI m K wi dw) (hg : SndG (others n vs) K g dg) (ht : SndT true K tt dt) (he : SndE true K te de) : SndO m K (tLc wi g tt te vs) (dLcP dw dg dt de n vs) := ⟨fun {B H σ env G QD Q} w q k => by
  refine hi.run w q fun ps env1 B1 H1 G1 J q1 w1 s1 u1 hJ => ?_
  obtain ⟨hn, Inv, i0, turn, done⟩ := q1
  have hσ : σ.length ≤ n := by rw [← w1.len]; exact lenE_le hn
  intro l hl
  let Wx : Nat → Hp → Prop := fun i H' => ∃ acc B', Inv i acc ∧ Gr B1 H1 B' H' ∧ Acc K B' H' G1 l acc
  have g0 : Gr B1 H1 B1 (upd H1 l (.lst [])) := ⟨Ex.refl _, fun a u k => by rw [upd_ne (ne_of_none k hl)]; exact k, fun a u k => by rw [upd_ne (ne_of_none (w1.ex a u k) hl)]; exact w1.ex a u k, fun a u k n => n⟩
  refine ⟨fun i mm H' => mm = ps.length - i ∧ i ≤ ps.length ∧ Wx i H', ⟨_, rfl, Nat.zero_le _, [], B1, i0, g0, ⟨⟨[], upd_same, rfl⟩, w1.ex.back hl, fun i hi => w1.off hl i hi⟩⟩, ?_⟩
  rintro i mm H' ⟨rfl, hle, acc, B', hI, g', a'⟩
  obtain ⟨hgo, hst⟩ := hJ B' H' i g'.b g'.w hle
  by_cases hlt : i < ps.length
  · obtain ⟨go, yl⟩ := hgo ps[i] (List.getElem?_eq_getElem hlt)
    refine .inr ⟨go, Wx (i + 1), fun H2 h2 => ⟨ps.length - (i + 1), by omega, rfl, hlt, h2⟩, fun x H2 y => ?_⟩
    obtain ⟨B2, g2, r2⟩ := yl x H2 y
    have w2 := ((w1.gr g').gr g2).wipe vs
    have a2 := a'.stp (G' := G1) (g2.stp (G := G1))
    refine hg.run w2 r2 (turn i ps[i] acc (List.getElem?_eq_getElem hlt) hI) fun env3 σ3 G3 q3 w3 g3 p3 => ?_
    refine ⟨wipe_pin p3 hσ, ?_⟩
    have ap3 : ∀ i, l ∉ G3 i := fun i hi => by
      obtain ⟨j, hj⟩ := g3 i l hi
      exact a2.ap j (wipeG_sub hj)
    refine ht.run w3 q3 fun bb env4 B4 H4 G4 q4 w4 s4 u4 => ?_
    obtain ⟨_, rfl, g4⟩ := u4 rfl
    have a4 : Acc K B4 H4 G1 l acc := by
      obtain ⟨z1, z2, z3⟩ := (show Acc K _ _ _ l acc from ⟨a2.at_, a2.nb, ap3⟩).stp s4
      exact ⟨z1, z2, a2.ap⟩
    cases bb with
    | true =>
      replace q4 := q4.1 rfl
      rw [if_pos rfl]
      refine he.run w4 q4 fun p5 env5 v5 B5 H5 G5 q5 w5 r5 s5 u5 => ?_
      obtain ⟨_, rfl, g5⟩ := u5 rfl
      have gg := ((g'.trans g2).trans g4).trans g5
      have a5 : Acc K B5 H5 G1 l acc := a4.stp (g5.stp (G := G1))
      obtain ⟨vs5, h5, rp5⟩ := a5.at_
      refine ⟨vs5, h5, by rw [rp5.length]; exact q5.1, acc ++ [p5], B5, q5.2, ?_, ⟨⟨_, upd_same, rp5.append (RpA.one r5)⟩, a5.nb, a5.ap⟩⟩
      exact ⟨gg.b, fun a o h => by rw [upd_ne (ne_of_none h hl)]; exact gg.h a o h, fun a o h => by rw [upd_ne (ne_of_none h a5.nb)]; exact gg.w a o h, gg.n⟩
    | false =>
      replace q4 := q4.2 rfl
      rw [if_neg Bool.false_ne_true]
      exact ⟨acc, B4, q4, (g'.trans g2).trans g4, a4⟩
  · have e : i = ps.length := by omega
    subst e
    obtain ⟨vs5, h5, rp5⟩ := a'.at_
    exact .inl ⟨hst (Nat.le_refl _), k (.ol acc) env1 (.ref l) [l] B' H' G1 (done acc hI) (w1.gr g') ⟨⟨l, vs5, rfl, rfl, h5, rp5⟩, by simp, fun a ha => by rw [List.mem_singleton.mp ha]; exact a'.nb, fun a ha => by
      rw [List.mem_singleton.mp ha]
      exact .inr (s1.back hl), fun a ha j hj => by rw [List.mem_singleton.mp ha] at hj; exact a'.ap j hj⟩ (s1.trans g'.stp) (u1.trans (.gr g'))⟩⟩
end
end DL
set_option Elab.async false
set_option linter.all false
set_option maxRecDepth 100000
namespace DL
open PySem PySem.Spec L2
/-! ### what a def promises, over data -/
theorem Stp.cut {B H B' H' : Hp} {G G' G2 : Fp} (s : Stp B H G B' H' G') (h : ∀ i a, a ∈ G2 i → a ∈ G' i) : Stp B H G B' H' G2 := ⟨s.ex, s.kp, fun i a k => s.fp i a (h i a k), s.bs, s.th⟩
abbrev FSp := List D → (D → List D → Prop) → Prop
def spD (K : PySem.W.Frag) (fs : FSp) : Sp := fun vs H Q _ => ∃ B ds G QD, Wd K B H (vs.map some) (ds.map some) G ∧ fs ds QD ∧
  ∀ d ds' v F B' H' G', QD d ds' → Wd K B' H' (vs.map some) (ds'.map some) G' → Own K H G B' H' G' d v F → Stp B H G B' H' G' → Q v H'
/-- the arguments' data -/
def argD (env : Env) : AR → D
  | .inl p => .sh p
  | .inr i => match env[i]? with
    | some (some d) => d
    | _ => .sh .non
theorem argD_at {env : Env} {i : Nat} {d : D} (h : env[i]? = some (some d)) : argD env (.inr i) = d := by
  show (match env[i]? with | some (some d) => d | _ => D.sh .non) = d
  rw [h]
def slots : List AR → List Nat
  | [] => []
  | .inl _ :: as => slots as
  | .inr i :: as => i :: slots as
def has (env : Env) (i : Nat) : Bool := match env[i]? with
  | some (some _) => true
  | _ => false
def argsOk (as : List AR) (env : Env) : Bool := decide (slots as).Nodup && (slots as).all (has env)
def updS (env : Env) : List AR → List D → Env
  | .inl _ :: as, _ :: ds => updS env as ds
  | .inr i :: as, d :: ds => updS (env.set i (some d)) as ds
  | _, _ => env
theorem mem_slots {i : Nat} : ∀ {as : List AR}, i ∈ slots as ↔ ∃ j : Nat, as[j]? = some (Sum.inr i)
  | [] => by simp [slots]
  | .inl p :: as => by
    rw [show slots (.inl p :: as) = slots as from rfl, mem_slots]
    constructor
    · rintro ⟨j, h⟩; exact ⟨j + 1, h⟩
    · rintro ⟨j, h⟩
      cases j with
      | zero => cases h
      | succ j => exact ⟨j, h⟩
  | .inr k :: as => by
    rw [show slots (.inr k :: as) = k :: slots as from rfl, List.mem_cons, mem_slots]
    constructor
    · rintro (rfl | ⟨j, h⟩)
      · exact ⟨0, rfl⟩
      · exact ⟨j + 1, h⟩
    · rintro ⟨j, h⟩
      cases j with
      | zero => cases h; exact .inl rfl
      | succ j => exact .inr ⟨j, h⟩
theorem slots_inj {i j k : Nat} : ∀ {as : List AR}, (slots as).Nodup → as[j]? = some (.inr i) → as[k]? = some (.inr i) → j = k
  | [], _, h, _ => by simp at h
  | .inl p :: as, nd, h1, h2 => by
    cases j with
    | zero => cases h1
    | succ j =>
      cases k with
      | zero => cases h2
      | succ k => rw [slots_inj (as := as) nd h1 h2]
  | .inr q :: as, nd, h1, h2 => by
    have nd' := List.nodup_cons.mp nd
    cases j with
    | zero =>
      cases h1
      cases k with
      | zero => rfl
      | succ k => exact absurd (mem_slots.mpr ⟨k, h2⟩) nd'.1
    | succ j =>
      cases k with
      | zero => cases h2; exact absurd (mem_slots.mpr ⟨j, h1⟩) nd'.1
      | succ k => rw [slots_inj (as := as) nd'.2 h1 h2]
theorem updS_len : ∀ {as : List AR} {ds : List D} {env : Env}, (updS env as ds).length = env.length
  | [], _, _ => rfl
  | .inl _ :: _, [], _ => rfl
  | .inr _ :: _, [], _ => rfl
  | .inl _ :: as, _ :: ds, env => updS_len (as := as)
  | .inr i :: as, d :: ds, env => by
    show (updS (env.set i (some d)) as ds).length = _
    rw [updS_len, List.length_set]
theorem updS_out {i : Nat} : ∀ {as : List AR} {ds : List D} {env : Env}, i ∉ slots as → (updS env as ds)[i]? = env[i]?
  | [], _, _, _ => rfl
  | .inl _ :: _, [], _, _ => rfl
  | .inr _ :: _, [], _, _ => rfl
  | .inl _ :: as, _ :: ds, env, h => updS_out (as := as) h
  | .inr j :: as, d :: ds, env, h => by
    have h' : i ≠ j ∧ i ∉ slots as := ⟨fun q => h (by rw [q]; exact List.mem_cons_self), fun q => h (List.mem_cons_of_mem _ q)⟩
    show (updS (env.set j (some d)) as ds)[i]? = _
    rw [updS_out h'.2, List.getElem?_set_ne fun e => h'.1 e.symm]
theorem updS_in {i : Nat} : ∀ {as : List AR} {ds : List D} {env : Env} {j : Nat}, (slots as).Nodup → ds.length = as.length → i < env.length → as[j]? = some (.inr i) → (updS env as ds)[i]? = ds[j]?.map some
  | [], _, _, _, _, _, _, h => by simp at h
  | .inl _ :: _, [], _, _, _, h, _, _ => by simp at h
  | .inr _ :: _, [], _, _, _, h, _, _ => by simp at h
  | .inl _ :: as, _ :: ds, env, j, nd, hl, hi, h => by
    cases j with
    | zero => cases h
    | succ j => exact updS_in (as := as) (ds := ds) nd (by simpa using hl) hi h
  | .inr q :: as, d :: ds, env, j, nd, hl, hi, h => by
    have nd' := List.nodup_cons.mp nd
    show (updS (env.set q (some d)) as ds)[i]? = _
    cases j with
    | zero =>
      cases h
      rw [updS_out nd'.1, List.getElem?_set_self hi]
      rfl
    | succ j => exact updS_in (as := as) (ds := ds) nd'.2 (by simpa using hl) (by rw [List.length_set]; exact hi) h
theorem RpX.len {K : PySem.W.Frag} {B : Hp} {σ : L2.St} : ∀ {as : List AR} {vs : List V}, RpX K B σ as vs → vs.length = as.length
  | [], _, h => by rw [show _ = [] from h]; rfl
  | .inl p :: as, _, ⟨v, r, e1, _, e3⟩ => by rw [e1, List.length_cons, List.length_cons, RpX.len e3]
  | .inr i :: as, _, ⟨v, r, e1, _, e3⟩ => by rw [e1, List.length_cons, List.length_cons, RpX.len e3]
theorem RpX.inl {K : PySem.W.Frag} {B : Hp} {σ : L2.St} {p : P} : ∀ {as : List AR} {vs : List V} {j : Nat}, RpX K B σ as vs → as[j]? = some (.inl p) → ∃ v, vs[j]? = some v ∧ Rp K B p v
  | [], _, _, _, h => by simp at h
  | .inl q :: as, _, j, ⟨v, r, e1, e2, e3⟩, h => by
    cases j with
    | zero => cases h; exact ⟨v, by rw [e1]; rfl, e2⟩
    | succ j => obtain ⟨u, h1, h2⟩ := RpX.inl e3 h; exact ⟨u, by rw [e1]; exact h1, h2⟩
  | .inr q :: as, _, j, ⟨v, r, e1, e2, e3⟩, h => by
    cases j with
    | zero => cases h
    | succ j => obtain ⟨u, h1, h2⟩ := RpX.inl e3 h; exact ⟨u, by rw [e1]; exact h1, h2⟩
theorem RpX.inr {K : PySem.W.Frag} {B : Hp} {σ : L2.St} {i : Nat} : ∀ {as : List AR} {vs : List V} {j : Nat}, RpX K B σ as vs → as[j]? = some (.inr i) → ∃ v, vs[j]? = some v ∧ σ[i]? = some (some v)
  | [], _, _, _, h => by simp at h
  | .inl q :: as, _, j, ⟨v, r, e1, e2, e3⟩, h => by
    cases j with
    | zero => cases h
    | succ j => obtain ⟨u, h1, h2⟩ := RpX.inr e3 h; exact ⟨u, by rw [e1]; exact h1, h2⟩
  | .inr q :: as, _, j, ⟨v, r, e1, e2, e3⟩, h => by
    cases j with
    | zero => cases h; exact ⟨v, by rw [e1]; rfl, e2⟩
    | succ j => obtain ⟨u, h1, h2⟩ := RpX.inr e3 h; exact ⟨u, by rw [e1]; exact h1, h2⟩
def argG (as : List AR) (G : Fp) : Fp := fun j => match as[j]? with
  | some (.inr i) => G i
  | _ => []
theorem argG_in {as : List AR} {G : Fp} {j : Nat} {a : Addr} (h : a ∈ argG as G j) : ∃ i, as[j]? = some (.inr i) ∧ a ∈ G i := by
  unfold argG at h
  split at h
  · rename_i i hi; exact ⟨i, hi, h⟩
  · cases h
theorem has_some {env : Env} {i : Nat} (h : has env i = true) : ∃ d, env[i]? = some (some d) := by
  unfold has at h
  split at h
  · rename_i d hd; exact ⟨d, hd⟩
  · cases h
/-- the callee's world -/
theorem Wd.args {K : PySem.W.Frag} {B H : Hp} {σ : L2.St} {env : Env} {G : Fp} {as : List AR} {vs : List V} (w : Wd K B H σ env G) (r : RpX K B σ as vs) (ok : argsOk as env = true) :
    Wd K B H (vs.map some) ((as.map (argD env)).map some) (argG as G) := by
  unfold argsOk at ok
  rw [Bool.and_eq_true] at ok
  have nd := of_decide_eq_true ok.1
  have hh : ∀ i ∈ slots as, ∃ d, env[i]? = some (some d) := fun i hi => has_some (List.all_eq_true.mp ok.2 i hi)
  refine ⟨w.ex, fun j d e => ?_, fun j hn => ?_, fun j => ?_, fun j k a ha hb => ?_, fun j a ha => ?_, by rw [List.length_map, List.length_map, List.length_map, r.len]⟩
  · rw [List.getElem?_map, List.getElem?_map] at e
    cases ha : as[j]? with
    | none => rw [ha] at e; cases e
    | some x =>
      rw [ha] at e
      cases x with
      | inl p =>
        have e' : D.sh p = d := Option.some.inj (Option.some.inj e)
        subst e'
        obtain ⟨v, h1, h2⟩ := r.inl ha
        exact ⟨v, by rw [List.getElem?_map, h1]; rfl, by unfold argG; rw [ha], h2⟩
      | inr i =>
        obtain ⟨d0, h0⟩ := hh i (mem_slots.mpr ⟨j, ha⟩)
        have e' : argD env (.inr i) = d := Option.some.inj (Option.some.inj e)
        have e'' : d0 = d := by rw [argD_at h0] at e'; exact e'
        subst e''
        obtain ⟨v, h1, h2⟩ := r.inr ha
        obtain ⟨v', g1, g2⟩ := w.sl i _ h0
        rw [h2] at g1
        cases g1
        exact ⟨v, by rw [List.getElem?_map, h1]; rfl, by unfold argG; rw [ha]; exact g2⟩
  · unfold argG
    split
    · rename_i i hi
      exfalso
      refine hn (argD env (.inr i)) ?_
      rw [List.getElem?_map, List.getElem?_map, hi]
      rfl
    · rfl
  · unfold argG
    split
    · exact w.nd _
    · exact List.nodup_nil
  · obtain ⟨i, h1, h2⟩ := argG_in ha
    obtain ⟨i', h3, h4⟩ := argG_in hb
    have := w.dj i i' a h2 h4
    subst this
    exact slots_inj nd h1 h3
  · obtain ⟨i, h1, h2⟩ := argG_in ha
    exact w.nb i a h2
/-- the caller's own objects behind the call -/
def backG (as : List AR) (G G' : Fp) : Fp := fun i => match as.findIdx? (fun x => match x with | .inr j => j == i | _ => false) with
  | some j => G' j
  | none => G i
theorem find_slot {as : List AR} {i : Nat} : (∃ j, as.findIdx? (fun x => match x with | .inr j => j == i | _ => false) = some j ∧ as[j]? = some (.inr i)) ∨ (as.findIdx? (fun x => match x with | .inr j => j == i | _ => false) = none ∧ i ∉ slots as) := by
  cases h : as.findIdx? (fun x => match x with | .inr j => j == i | _ => false) with
  | some j =>
    left
    refine ⟨j, rfl, ?_⟩
    obtain ⟨hlt, hx, _⟩ := List.findIdx?_eq_some_iff_getElem.mp h
    rw [List.getElem?_eq_getElem hlt]
    cases e : as[j] with
    | inl p => rw [e] at hx; cases hx
    | inr q => rw [e] at hx; rw [beq_iff_eq.mp hx]
  | none =>
    right
    refine ⟨rfl, fun hm => ?_⟩
    obtain ⟨j, hj⟩ := mem_slots.mp hm
    have := List.findIdx?_eq_none_iff.mp h (.inr i) (List.mem_of_getElem? hj)
    simp at this
theorem Wd.after {K : PySem.W.Frag} {B H B' H' : Hp} {σ : L2.St} {env : Env} {G G' : Fp} {as : List AR} {vs : List V} {ds : List D} (w : Wd K B H σ env G) (r : RpX K B σ as vs) (ok : argsOk as env = true)
    (w' : Wd K B' H' (vs.map some) (ds.map some) G') (s : Stp B H (argG as G) B' H' G') :
    Wd K B' H' σ (updS env as ds) (backG as G G') ∧ Stp B H G B' H' (backG as G G') ∧ (∀ a i, a ∈ backG as G G' i → (∃ j, a ∈ G' j) ∨ (a ∈ G i ∧ i ∉ slots as)) := by
  unfold argsOk at ok
  rw [Bool.and_eq_true] at ok
  have nd := of_decide_eq_true ok.1
  have hh : ∀ i ∈ slots as, ∃ d, env[i]? = some (some d) := fun i hi => has_some (List.all_eq_true.mp ok.2 i hi)
  have hl : ds.length = as.length := by
    have := w'.len
    rw [List.length_map, List.length_map, r.len] at this
    exact this
  have keep : ∀ i a, a ∈ G i → i ∉ slots as → (∀ j, a ∉ argG as G j) := fun i a ha hn j hj => by
    obtain ⟨i', h1, h2⟩ := argG_in hj
    have := w.dj i i' a ha h2
    subst this
    exact hn (mem_slots.mpr ⟨j, h1⟩)
  have there : ∀ i a, a ∈ G i → ∃ o, H a = some o := fun i a ha => by
    by_cases hx : ∃ d, env[i]? = some (some d)
    · obtain ⟨d, hd⟩ := hx
      obtain ⟨v', h1, h2⟩ := w.sl i d hd
      exact RpD.there h2 a ha
    · rw [w.no i fun d e => hx ⟨d, e⟩] at ha; cases ha
  have mem : ∀ a i, a ∈ backG as G G' i → (∃ j, as[j]? = some (.inr i) ∧ a ∈ G' j) ∨ (a ∈ G i ∧ i ∉ slots as) := fun a i ha => by
    unfold backG at ha
    rcases find_slot (as := as) (i := i) with ⟨j, h1, h2⟩ | ⟨h1, h2⟩
    · rw [h1] at ha; exact .inl ⟨j, h2, ha⟩
    · rw [h1] at ha; exact .inr ⟨ha, h2⟩
  refine ⟨⟨w'.ex, fun i d e => ?_, fun i hn => ?_, fun i => ?_, fun i j a ha hb => ?_, fun i a ha => ?_, by rw [updS_len]; exact w.len⟩, ⟨s.ex, fun a o h n => s.kp a o h fun j hj => ?_, fun i a ha => ?_, fun a o h hb n => s.bs a o h hb fun j hj => ?_, s.th⟩, fun a i ha => (mem a i ha).imp (fun ⟨j, _, h⟩ => ⟨j, h⟩) id⟩
  · rcases find_slot (as := as) (i := i) with ⟨j, h1, h2⟩ | ⟨h1, h2⟩
    · obtain ⟨d0, h0⟩ := hh i (mem_slots.mpr ⟨j, h2⟩)
      rw [updS_in nd hl (env_lt h0) h2] at e
      obtain ⟨v, g1, g2⟩ := w'.sl j d (by rw [List.getElem?_map]; exact e)
      obtain ⟨v', k1, k2⟩ := r.inr h2
      rw [List.getElem?_map, k1] at g1
      cases g1
      refine ⟨_, k2, ?_⟩
      unfold backG
      rw [h1]
      exact g2
    · rw [updS_out h2] at e
      obtain ⟨v, g1, g2⟩ := w.sl i d e
      refine ⟨v, g1, ?_⟩
      unfold backG
      rw [h1]
      exact RpD.mono s.ex g2 fun a ha o ho => s.kp a o ho (keep i a ha h2)
  · rcases find_slot (as := as) (i := i) with ⟨j, h1, h2⟩ | ⟨h1, h2⟩
    · obtain ⟨d0, h0⟩ := hh i (mem_slots.mpr ⟨j, h2⟩)
      exfalso
      have hj : j < ds.length := by rw [hl]; exact (List.getElem?_eq_some_iff.mp h2).1
      refine hn ds[j] ?_
      rw [updS_in nd hl (env_lt h0) h2, List.getElem?_eq_getElem hj]
      rfl
    · unfold backG
      rw [h1]
      refine w.no i fun d e => hn d ?_
      rw [updS_out h2]; exact e
  · unfold backG
    split
    · exact w'.nd _
    · exact w.nd _
  · rcases mem a i ha with ⟨k, k1, k2⟩ | ⟨k1, k2⟩
    · rcases mem a j hb with ⟨l, l1, l2⟩ | ⟨l1, l2⟩
      · have := w'.dj k l a k2 l2
        subst this
        rw [k1] at l1
        cases l1
        rfl
      · rcases s.fp k a k2 with ⟨q, hq⟩ | hq
        · exact absurd hq (keep j a l1 l2 q)
        · obtain ⟨o, ho⟩ := there j a l1
          rw [ho] at hq; cases hq
    · rcases mem a j hb with ⟨l, l1, l2⟩ | ⟨l1, l2⟩
      · rcases s.fp l a l2 with ⟨q, hq⟩ | hq
        · exact absurd hq (keep i a k1 k2 q)
        · obtain ⟨o, ho⟩ := there i a k1
          rw [ho] at hq; cases hq
      · exact w.dj i j a k1 l1
  · rcases mem a i ha with ⟨k, k1, k2⟩ | ⟨k1, k2⟩
    · exact w'.nb k a k2
    · obtain ⟨o, ho⟩ := there i a k1
      exact s.bs a o ho (w.nb i a k1) (keep i a k1 k2)
  · obtain ⟨i, h1, h2⟩ := argG_in hj
    exact n i h2
  · rcases mem a i ha with ⟨k, k1, k2⟩ | ⟨k1, k2⟩
    · rcases s.fp k a k2 with ⟨q, hq⟩ | hq
      · obtain ⟨i', h1, h2⟩ := argG_in hq
        exact .inl ⟨i', h2⟩
      · exact .inr hq
    · exact .inl ⟨i, k1⟩
  · obtain ⟨i, h1, h2⟩ := argG_in hj
    exact n i h2
section
variable {pn : List Nat} {m : Bool} {K : PySem.W.Frag} {ta : TA} {da : dA} {X : Cx} {e a : Expr} {es : List Expr}
def dCall (fs : FSp) (da : dA) : dO := fun env Q => da env fun as e => argsOk as e = true ∧ fs (as.map (argD e)) fun d ds => Q d (updS e as ds)
theorem snd_call {fs : FSp} {E : XK} (h : SndA m K ta da) : SndO false K (tCall (spD K fs) [] E ta) (dCall fs da) := ⟨fun {B H σ env G QD Q} w q k => by
  refine h.run w q fun as e vs B1 H1 G1 q1 w1 r1 s1 _ => ?_
  obtain ⟨ok, q1⟩ := q1
  show spD K fs (vs ++ []) H1 Q E
  rw [List.append_nil]
  refine ⟨B1, _, _, _, w1.args r1 ok, q1, fun d ds v F B2 H2 G2 q2 w2 o2 s2 => ?_⟩
  obtain ⟨w3, s3, m3⟩ := w1.after r1 ok w2 s2
  refine k d _ v F B2 H2 _ q2 w3 ⟨o2.rp, o2.nd, o2.nb, fun x hx => ?_, fun x hx i hi => ?_⟩ (s1.trans s3) .off
  · rcases o2.nw x hx with ⟨j, hj⟩ | hn
    · obtain ⟨i, _, h2⟩ := argG_in hj
      exact s1.fp i x h2
    · exact .inr (s1.back hn)
  · rcases m3 x i hi with ⟨j, hj⟩ | ⟨h1, h2⟩
    · exact o2.ap x hx j hj
    · rcases o2.nw x hx with ⟨j, hj⟩ | hn
      · obtain ⟨i', g1, g2⟩ := argG_in hj
        have := w1.dj i i' x h1 g2
        subst this
        exact h2 (mem_slots.mpr ⟨j, g1⟩)
      · exact w1.off hn i h1⟩
/-- a call that changes none of its arguments -/
def dCallP (fs : FSp) (da : dA) : dO := fun env Q => da env fun as e => slots as = [] ∧ fs (as.map (argD e)) fun d _ => Q d e
theorem prs_of : ∀ {as : List AR}, slots as = [] → ∃ ps, prs as = some ps
  | [], _ => ⟨[], rfl⟩
  | .inl p :: as, h => by
    obtain ⟨ps, e⟩ := prs_of (as := as) h
    exact ⟨p :: ps, by unfold prs; rw [e]; rfl⟩
  | .inr _ :: _, h => by cases h
theorem snd_callP {fs : FSp} {E : XK} (h : SndA m K ta da) : SndO m K (tCall (spD K fs) [] E ta) (dCallP fs da) := ⟨fun {B H σ env G QD Q} w q k => by
  refine h.run w q fun as e vs B1 H1 G1 q1 w1 r1 s1 u1 => ?_
  obtain ⟨hs, q1⟩ := q1
  have ok : argsOk as e = true := by unfold argsOk; rw [hs]; rfl
  show spD K fs (vs ++ []) H1 Q E
  rw [List.append_nil]
  have gz : ∀ j x, x ∉ argG as G1 j := fun j x hx => by
    obtain ⟨i, h1, _⟩ := argG_in hx
    have := mem_slots.mpr ⟨j, h1⟩
    rw [hs] at this; cases this
  refine ⟨B1, _, _, _, w1.args r1 ok, q1, fun d ds v F B2 H2 G2 q2 w2 o2 s2 => ?_⟩
  have g : Gr B1 H1 B2 H2 := ⟨s2.ex, fun x o hx => s2.kp x o hx fun j => gz j x, w2.ex, fun x o hx hn => s2.bs x o hx hn fun j => gz j x⟩
  refine k d _ v F B2 H2 G1 q2 (w1.gr g) ⟨o2.rp, o2.nd, o2.nb, fun x hx => ?_, fun x hx i hi => ?_⟩ (s1.trans g.stp) (u1.trans (.gr g))
  · rcases o2.nw x hx with ⟨j, hj⟩ | hn
    · exact absurd hj (gz j x)
    · exact .inr (s1.back hn)
  · rcases o2.nw x hx with ⟨j, hj⟩ | hn
    · exact absurd hj (gz j x)
    · exact w1.off hn i hi⟩
theorem do_call {fs : FSp} {E : XK} {e0 : Expr} (h : PA X (e0 :: es) ta → PE X a (tCall (spD X.K fs) [] E ta)) (ha : DA m X (e0 :: es) ta da) : DO false X a (tCall (spD X.K fs) [] E ta) (dCall fs da) := ⟨h ha.pe, snd_call ha.sd⟩
theorem do_callP {fs : FSp} {E : XK} {e0 : Expr} (h : PA X (e0 :: es) ta → PE X a (tCall (spD X.K fs) [] E ta)) (ha : DA m X (e0 :: es) ta da) : DO m X a (tCall (spD X.K fs) [] E ta) (dCallP fs da) := ⟨h ha.pe, snd_callP ha.sd⟩
end
/-! ### a def -/
def back (pn : List Nat) (env : Env) : Nat → List D → List D
  | _, [] => []
  | i, d :: ds => (if pn.contains i then argD env (.inr i) else d) :: back pn env (i + 1) ds
def startE (N : List Str) (ds : List D) : Env := ds.map some ++ List.replicate (N.length - ds.length) none
def isSh : D → Bool
  | .sh _ => true
  | _ => false
/-- the parameters that are not lent are plain -/
def lentOk (pn : List Nat) : Nat → List D → Bool
  | _, [] => true
  | i, d :: ds => (pn.contains i || isSh d) && lentOk pn (i + 1) ds
theorem back_get {pn : List Nat} {env : Env} : ∀ {ds : List D} {i j : Nat}, (back pn env i ds)[j]? = ds[j]?.map fun d => if pn.contains (i + j) then argD env (.inr (i + j)) else d
  | [], _, _ => by simp [back]
  | d :: ds, i, 0 => by rfl
  | d :: ds, i, j + 1 => by
    show (back pn env (i + 1) ds)[j]? = _
    rw [back_get, show i + 1 + j = i + (j + 1) by omega]
    rfl
theorem back_len {pn : List Nat} {env : Env} : ∀ {ds : List D} {i : Nat}, (back pn env i ds).length = ds.length
  | [], _ => rfl
  | d :: ds, i => by show (back pn env (i + 1) ds).length + 1 = _; rw [back_len]; rfl
theorem lent_at {pn : List Nat} : ∀ {ds : List D} {i j : Nat} {d : D}, lentOk pn i ds = true → ds[j]? = some d → pn.contains (i + j) = true ∨ isSh d = true
  | [], _, _, _, _, h => by simp at h
  | d :: ds, i, 0, d', h, e => by
    cases Option.some.inj e
    have h' : (pn.contains i || isSh d) = true ∧ lentOk pn (i + 1) ds = true := by rw [← Bool.and_eq_true]; exact h
    rw [Bool.or_eq_true] at h'
    exact h'.1
  | d :: ds, i, j + 1, d', h, e => by
    have h' : (pn.contains i || isSh d) = true ∧ lentOk pn (i + 1) ds = true := by rw [← Bool.and_eq_true]; exact h
    have := lent_at (i := i + 1) (j := j) h'.2 e
    rw [show i + 1 + j = i + (j + 1) by omega] at this
    exact this
theorem startE_get {N : List Str} {ds : List D} {i : Nat} {d : D} (h : (startE N ds)[i]? = some (some d)) : ds[i]? = some d := by
  unfold startE at h
  by_cases hi : i < ds.length
  · rw [List.getElem?_append_left (by simpa using hi), List.getElem?_map] at h
    cases e : ds[i]? with
    | none => rw [e] at h; cases h
    | some x => rw [e] at h; cases h; rfl
  · rw [List.getElem?_append_right (by simpa using hi), List.getElem?_replicate] at h
    split at h <;> cases h
theorem Wd.start {K : PySem.W.Frag} {B H : Hp} {vs : List V} {ds : List D} {G : Fp} {N : List Str} (w : Wd K B H (vs.map some) (ds.map some) G) : Wd K B H (L2.start N vs) (startE N ds) G := by
  have hl : ds.length = vs.length := by have := w.len; rw [List.length_map, List.length_map] at this; exact this
  refine ⟨w.ex, fun i d e => ?_, fun i hn => ?_, w.nd, w.dj, w.nb, ?_⟩
  · have e' := startE_get e
    obtain ⟨v, h1, h2⟩ := w.sl i d (by rw [List.getElem?_map, e']; rfl)
    refine ⟨v, ?_, h2⟩
    unfold L2.start
    rw [List.getElem?_append_left (by rw [List.length_map, ← hl]; exact (List.getElem?_eq_some_iff.mp e').1)]
    exact h1
  · refine w.no i fun d e => hn d ?_
    unfold startE
    rw [List.getElem?_append_left (env_lt e)]
    exact e
  · unfold startE L2.start
    rw [List.length_append, List.length_append, List.length_map, List.length_map, List.length_replicate, List.length_replicate, hl]
theorem Wd.back {K : PySem.W.Frag} {B H B' H' : Hp} {vs : List V} {ds : List D} {G G' : Fp} {N : List Str} {pn : List Nat} {env' : Env} {σ' : L2.St} (w : Wd K B H (vs.map some) (ds.map some) G) (hb : Ex B B')
    (w' : Wd K B' H' σ' env' G') (p : Pin pn (L2.start N vs) σ') (hl : lentOk pn 0 ds = true) (hp : pn.all (has env') = true) :
    Wd K B' H' (vs.map some) ((DL.back pn env' 0 ds).map some) (fun i => if pn.contains i ∧ i < ds.length then G' i else []) := by
  have hlen : ds.length = vs.length := by have := w.len; rw [List.length_map, List.length_map] at this; exact this
  refine ⟨w'.ex, fun i d e => ?_, fun i hn => ?_, fun i => ?_, fun i j a ha hb => ?_, fun i a ha => ?_, by rw [List.length_map, List.length_map, back_len, hlen]⟩
  · rw [List.getElem?_map, back_get] at e
    cases hd : ds[i]? with
    | none => rw [hd] at e; cases e
    | some d0 =>
      rw [hd] at e
      have e' : (if pn.contains (0 + i) then argD env' (.inr (0 + i)) else d0) = d := Option.some.inj (Option.some.inj e)
      rw [Nat.zero_add] at e'
      have hi : i < ds.length := (List.getElem?_eq_some_iff.mp hd).1
      obtain ⟨v, h1, h2⟩ := w.sl i d0 (by rw [List.getElem?_map, hd]; rfl)
      refine ⟨v, h1, ?_⟩
      by_cases hc : pn.contains i = true
      · rw [if_pos hc] at e'
        rw [if_pos ⟨hc, hi⟩]
        have hm : i ∈ pn := by simpa using hc
        obtain ⟨d1, hd1⟩ := has_some (List.all_eq_true.mp hp i hm)
        have e'' : d1 = d := by rw [argD_at hd1] at e'; exact e'
        subst e''
        obtain ⟨v', g1, g2⟩ := w'.sl i _ hd1
        rw [p.2 i hm] at g1
        unfold L2.start at g1
        rw [List.getElem?_append_left (by rw [List.length_map, ← hlen]; exact hi), h1] at g1
        cases g1
        exact g2
      · rw [if_neg hc] at e'
        rw [if_neg fun q => hc q.1]
        subst e'
        rcases lent_at (i := 0) (j := i) hl hd with h | h
        · rw [Nat.zero_add] at h; exact absurd h hc
        · cases d0 with
          | sh p => exact ⟨rfl, Rp.mono hb p h2.2⟩
          | _ => cases h
  · show (if pn.contains i ∧ i < ds.length then G' i else []) = []
    split
    · rename_i hc
      exfalso
      refine hn (argD env' (.inr i)) ?_
      rw [List.getElem?_map, back_get, List.getElem?_eq_getElem hc.2, Nat.zero_add]
      show some (some (if pn.contains i then argD env' (.inr i) else ds[i])) = _
      rw [if_pos hc.1]
    · rfl
  · show (if pn.contains i ∧ i < ds.length then G' i else []).Nodup
    split
    · exact w'.nd i
    · exact List.nodup_nil
  · change a ∈ (if pn.contains i ∧ i < ds.length then G' i else []) at ha
    change a ∈ (if pn.contains j ∧ j < ds.length then G' j else []) at hb
    split at ha
    · split at hb
      · exact w'.dj i j a ha hb
      · cases hb
    · cases ha
  · change a ∈ (if pn.contains i ∧ i < ds.length then G' i else []) at ha
    split at ha
    · exact w'.nb i a ha
    · cases ha
section
variable {P' : Program} {w' : World} {K : PySem.W.Frag} {mg : Str → Option Value} {base : Heap}
/-- a def keeps its promise over data -/
theorem Fun.okD {x qual : Str} {st : Stmt} {f : Addr} {fd : FuncData} {N ps : List Str} {k : Nat} {fs : FSp} (pn : List Nat) (F : L2.Fun K x qual st f fd) (S : FnScope N ps (defScope st)) (len : ∀ ds QD, fs ds QD → ds.length = ps.length ∧ lentOk pn 0 ds = true)
    (hbody : ∀ (cdv : Value) (A : Around) (outer : List PySem.Env) (s : Shared) (H : Hp) (E : XK), Room k (A.deeper (PyProof.Rows.envOfC qual (defScope st) s.heap.objs.size f cdv)) →
      ∃ ts dS', DSs pn (cxOf CX0 P' w' K mg base N qual (defScope st) f cdv A outer s H E).nox (defBody st) ts dS' ∧ ∀ ds QD, fs ds QD →
        dS' { nx := fun env => pn.all (has env) = true ∧ QD (.sh .non) (back pn env 0 ds), rt := fun d env => pn.all (has env) = true ∧ QD d (back pn env 0 ds) } (startE N ds)) :
    FnOk P' w' K mg base CX0 (k + 1) f fd ps (spD K fs) := by
  refine F.ok S (fun vs H Q E h => ?_) (fun cdv A outer s H vs Q E hr h => ?_)
  · obtain ⟨B, ds, G, QD, w, h, _⟩ := h
    have := w.len
    rw [List.length_map, List.length_map] at this
    rw [← this]
    exact (len ds QD h).1
  · obtain ⟨B, ds, G, QD, w, h, q⟩ := h
    obtain ⟨ts, dS', hd, hr'⟩ := hbody cdv A outer s H E hr
    have hl := (len ds QD h).2
    refine ⟨ts, hd.pe, hd.sd.run (D := { nx := fun _ H' => Q .non H', rt := Q }) (w.start (N := N)) (hr' ds QD h) ?_ ?_ (fun _ _ _ _ _ h => h.elim) (fun _ _ _ _ _ h => h.elim)⟩
    · intro env' σ' B' H' G' hq wq sq pq
      have wb := w.back sq.ex wq pq hl hq.1
      exact q _ _ .non [] B' H' _ hq.2 wb ⟨⟨rfl, rfl⟩, List.nodup_nil, fun _ h => absurd h List.not_mem_nil, fun _ h => absurd h List.not_mem_nil, fun _ h => absurd h List.not_mem_nil⟩
        (sq.cut fun i a ha => by
          change a ∈ (if pn.contains i ∧ i < ds.length then G' i else []) at ha
          split at ha
          · exact ha
          · cases ha)
    · intro d env' σ' v F B' H' G' hq wq oq sq pq
      have wb := w.back sq.ex wq pq hl hq.1
      refine q _ _ v F B' H' _ hq.2 wb ⟨oq.rp, oq.nd, oq.nb, oq.nw, fun a ha i hi => ?_⟩ (sq.cut fun i a ha => ?_)
      · change a ∈ (if pn.contains i ∧ i < ds.length then G' i else []) at hi
        split at hi
        · exact oq.ap a ha i hi
        · cases hi
      · change a ∈ (if pn.contains i ∧ i < ds.length then G' i else []) at ha
        split at ha
        · exact ha
        · cases ha
end
end DL
set_option Elab.async false
set_option linter.all false
set_option maxRecDepth 100000
namespace DL
open PySem PySem.Spec L2
section
variable {K : PySem.W.Frag}
/-! ### intsP -/
def dII (f : Int → Int → P) : P → P → (P → Prop) → Prop
  | .int i, .int j, Q => Q (f i j)
  | _, _, _ => False
def dIC (C : Int → Int → Prop) (f : Int → Int → P) : P → P → (P → Prop) → Prop
  | .int i, .int j, Q => C i j ∧ Q (f i j)
  | _, _, _ => False
/-- a value that is no object -/
def VP : V → P → Prop
  | .int i, .int j => i = j
  | .bl a, .bl b => a = b
  | .str a, .str b => a = b
  | .non, .non => True
  | _, _ => False
theorem VP.rp {v : V} {p : P} (h : VP v p) (B : Hp) : Rp K B p v := by
  cases v <;> cases p <;> first | exact h.elim | (cases h; rfl)
theorem os_I0 {g : Int → Int → V} {f : Int → Int → P} (h : ∀ i j, VP (g i j) (f i j)) : OpS K (rI0 g) (dII f) := ⟨fun {B H x y p q QD Q} e rx ry r k => by
  cases p with
  | int i =>
    cases q with
    | int j => exact ⟨i, j, rx, ry, k _ B H _ r ((h i j).rp B) (.refl e)⟩
    | _ => exact r.elim
  | _ => exact r.elim⟩
theorem os_I {C : Int → Int → Prop} {g : Int → Int → V} {f : Int → Int → P} (h : ∀ i j, VP (g i j) (f i j)) : OpS K (rI C g) (dIC C f) := ⟨fun {B H x y p q QD Q} e rx ry r k => by
  cases p with
  | int i =>
    cases q with
    | int j => exact ⟨i, j, rx, ry, r.1, k _ B H _ r.2 ((h i j).rp B) (.refl e)⟩
    | _ => exact r.elim
  | _ => exact r.elim⟩
abbrev dAdd := dII fun i j => .int (i + j)
abbrev dSub := dII fun i j => .int (i - j)
abbrev dMul := dIC CMulW fun i j => .int (i * j)
abbrev dMod := dIC (fun _ j => 0 < j) fun i j => .int (i % j)
abbrev dDiv := dIC CDivW fun i j => .int (i / j)
abbrev dPow := dIC CPow fun i j => .int (i ^ j.toNat)
abbrev dLt := dII fun i j => .bl (decide (i < j))
abbrev dLe := dII fun i j => .bl (decide (i ≤ j))
abbrev dGt := dII fun i j => .bl (decide (j < i))
abbrev dGe := dII fun i j => .bl (decide (j ≤ i))
theorem os_add : OpS K (rI0 fun i j => .int (i + j)) dAdd := os_I0 (by intro _ _; rfl)
theorem os_sub : OpS K (rI0 fun i j => .int (i - j)) dSub := os_I0 (by intro _ _; rfl)
theorem os_mul : OpS K (rI CMulW fun i j => .int (i * j)) dMul := os_I (by intro _ _; rfl)
theorem os_mod : OpS K (rI (fun _ j => 0 < j) fun i j => .int (i % j)) dMod := os_I (by intro _ _; rfl)
theorem os_div : OpS K (rI CDivW fun i j => .int (i / j)) dDiv := os_I (by intro _ _; rfl)
theorem os_pow : OpS K (rI CPow fun i j => .int (i ^ j.toNat)) dPow := os_I (by intro _ _; rfl)
theorem os_lt : OpS K (rI0 fun i j => .bl (decide (i < j))) dLt := os_I0 (by intro _ _; rfl)
theorem os_le : OpS K (rI0 fun i j => .bl (decide (i ≤ j))) dLe := os_I0 (by intro _ _; rfl)
theorem os_gt : OpS K (rI0 fun i j => .bl (decide (j < i))) dGt := os_I0 (by intro _ _; rfl)
theorem os_ge : OpS K (rI0 fun i j => .bl (decide (j ≤ i))) dGe := os_I0 (by intro _ _; rfl)
def dU (f : Int → P) : P → (P → Prop) → Prop
  | .int i, Q => Q (f i)
  | _, _ => False
theorem us_I {g : Int → V} {f : Int → P} (h : ∀ i, VP (g i) (f i)) : UnS K (rU g) (dU f) := ⟨fun {B H x p QD Q} e rx r k => by
  cases p with
  | int i => exact ⟨i, rx, k _ B H _ r ((h i).rp B) (.refl e)⟩
  | _ => exact r.elim⟩
abbrev dNeg := dU fun i => .int (-i)
theorem us_neg : UnS K (rU fun i => .int (-i)) dNeg := us_I (by intro _; rfl)

/-! ### == of what is no object -/
def dEq : P → P → (P → Prop) → Prop
  | .int i, .int j, Q => Q (.bl (decide (i = j)))
  | .str i, .str j, Q => Q (.bl (decide (i = j)))
  | .bl i, .bl j, Q => Q (.bl (decide (i = j)))
  | .non, .non, Q => Q (.bl true)
  | .non, .int _, Q => Q (.bl false)
  | .int _, .non, Q => Q (.bl false)
  | .non, .bl _, Q => Q (.bl false)
  | .bl _, .non, Q => Q (.bl false)
  | .non, .str _, Q => Q (.bl false)
  | .str _, .non, Q => Q (.bl false)
  | .int _, .str _, Q => Q (.bl false)
  | .str _, .int _, Q => Q (.bl false)
  | .bl _, .str _, Q => Q (.bl false)
  | .str _, .bl _, Q => Q (.bl false)
  | _, _, _ => False
def dNe (p q : P) (Q : P → Prop) : Prop := dEq p q fun z => match z with
  | .bl b => Q (.bl (!b))
  | _ => False
theorem dEq_sc {B : Hp} {p q : P} {x y : V} {QD : P → Prop} (rx : Rp K B p x) (ry : Rp K B q y) (h : dEq p q QD) : scal x y = true ∧ QD (.bl (decide (x = y))) := by
  cases p <;> cases q <;> first | exact h.elim | skip
  all_goals rw [show x = _ from rx, show y = _ from ry]
  all_goals refine ⟨rfl, ?_⟩
  all_goals first
    | exact h
    | (rw [show decide (V.int _ = V.int _) = decide _ from decide_eq_decide.mpr V.int.injEq.to_iff]; exact h)
    | (have := h; simp only [reduceCtorEq, decide_false, decide_true, V.int.injEq, V.str.injEq, V.bl.injEq] at this ⊢; exact this)
theorem os_eq : OpS K rEq dEq := ⟨fun {B H x y p q QD Q} e rx ry r k => by
  obtain ⟨h1, h2⟩ := dEq_sc rx ry r
  exact ⟨h1, k _ B H _ h2 rfl (.refl e)⟩⟩
theorem os_ne : OpS K rNe dNe := ⟨fun {B H x y p q QD Q} e rx ry r k => by
  obtain ⟨h1, h2⟩ := dEq_sc rx ry r
  exact ⟨h1, k _ B H _ h2 rfl (.refl e)⟩⟩
/-! ### is None -/
def isNon : P → Bool
  | .non => true
  | _ => false
def dIsN (p q : P) (Q : P → Prop) : Prop := match q with
  | .non => Q (.bl (isNon p))
  | _ => False
def dNotN (p q : P) (Q : P → Prop) : Prop := match q with
  | .non => Q (.bl (!isNon p))
  | _ => False
theorem isNon_rp {B : Hp} {p : P} {x : V} (r : Rp K B p x) : decide (x = V.non) = isNon p := by
  cases p with
  | lst ps => obtain ⟨a, vs, rfl, _⟩ := r; rfl
  | rol ps => obtain ⟨a, vs, rfl, _⟩ := r; rfl
  | tup ps => obtain ⟨a, vs, rfl, _⟩ := r; rfl
  | ins C fs => obtain ⟨a, dx, fv, rfl, _⟩ := r; rfl
  | _ => rw [show x = _ from r]; rfl
theorem os_isN : OpS K (fun x y H Q => y = .non ∧ Q (.bl (decide (x = .non))) H) dIsN := ⟨fun {B H x y p q QD Q} e rx ry r k => by
  cases q with
  | non => exact ⟨ry, k _ B H _ r (by rw [isNon_rp rx]; rfl) (.refl e)⟩
  | _ => exact r.elim⟩
theorem os_notN : OpS K (fun x y H Q => y = .non ∧ Q (.bl (!decide (x = .non))) H) dNotN := ⟨fun {B H x y p q QD Q} e rx ry r k => by
  cases q with
  | non => exact ⟨ry, k _ B H _ r (by rw [isNon_rp rx]; rfl) (.refl e)⟩
  | _ => exact r.elim⟩

/-! ### items -/
def dIx : P → P → (P → Prop) → Prop
  | .lst xs, .int i, Q => ∃ p, atI xs i = some p ∧ Q p
  | .rol xs, .int i, Q => ∃ p, atI xs i = some p ∧ Q p
  | .tup xs, .int i, Q => ∃ p, atI xs i = some p ∧ Q p
  | .str z, .int i, Q => z.length ≤ sizeLine ∧ ∃ c, atI z.cps.toList i = some c ∧ Q (.str ⟨#[c]⟩)
  | _, _, _ => False
theorem os_ix : OpS K (rIx K) dIx := ⟨fun {B H x y p q QD Q} e rx ry r k => by
  cases q with
  | int i =>
    cases p with
    | lst xs =>
      obtain ⟨a, vs, rfl, h1, h2⟩ := rx
      obtain ⟨p, hp, r⟩ := r
      obtain ⟨v, hv, rv⟩ := atI_rp h2 hp
      exact .inl ⟨a, vs, i, v, rfl, ry, SqL.of (e a _ h1), hv, k v B H p r rv (.refl e)⟩
    | rol xs =>
      obtain ⟨a, vs, rfl, h1, h2⟩ := rx
      obtain ⟨p, hp, r⟩ := r
      obtain ⟨v, hv, rv⟩ := atI_rp h2 hp
      exact .inl ⟨a, vs, i, v, rfl, ry, e.sqL h1, hv, k v B H p r rv (.refl e)⟩
    | tup xs =>
      obtain ⟨a, vs, rfl, h1, h2⟩ := rx
      obtain ⟨p, hp, r⟩ := r
      obtain ⟨v, hv, rv⟩ := atI_rp h2 hp
      exact .inr (.inl ⟨a, vs, i, v, rfl, ry, e.sqT h1, hv, k v B H p r rv (.refl e)⟩)
    | str z =>
      obtain ⟨hz, c, hc, r⟩ := r
      exact .inr (.inr ⟨z, i, c, rx, ry, hz, hc, k _ B H _ r rfl (.refl e)⟩)
    | _ => exact r.elim
  | _ => cases p <;> exact r.elim⟩
/-- items of lists alone, as a store's place is read -/
def dIxL : P → P → (P → Prop) → Prop
  | .lst xs, .int i, Q => ∃ p, atI xs i = some p ∧ Q p
  | .rol xs, .int i, Q => ∃ p, atI xs i = some p ∧ Q p
  | _, _, _ => False

/-! ### == of data -/
end
mutual
def P.toD : P → PyData
  | .non => .none
  | .bl b => .bool b
  | .int i => .int i
  | .str s => .str s
  | .lst xs => .list (P.toDs xs)
  | .rol xs => .list (P.toDs xs)
  | .tup xs => .tuple (P.toDs xs)
  | .ob _ => .dict []
  | .ty _ => .dict []
  | .ins _ _ => .dict []
def P.toDs : List P → List PyData
  | [] => []
  | p :: ps => P.toD p :: P.toDs ps
end
section
variable {K : PySem.W.Frag}
mutual
theorem dp_of {B : Hp} : ∀ (p : P) {v : V}, Rp K B p v → (P.toD p).canLay0 = true → Dp K B v (P.toD p)
  | .non, _, h, _ => by rw [show _ = V.non from h]; exact .non
  | .bl b, _, h, _ => by rw [show _ = V.bl b from h]; exact .bl b
  | .int i, _, h, _ => by rw [show _ = V.int i from h]; exact .int i
  | .str s, _, h, _ => by rw [show _ = V.str s from h]; exact .str s
  | .lst xs, _, ⟨a, vs, e, h1, h2⟩, c => by rw [e]; exact .lst (SqL.of h1) (dps_of xs h2 c)
  | .rol xs, _, ⟨a, vs, e, h1, h2⟩, c => by rw [e]; exact .lst h1 (dps_of xs h2 c)
  | .tup xs, _, ⟨a, vs, e, h1, h2⟩, c => by rw [e]; exact .tup h1 (dps_of xs h2 c)
  | .ob _, _, _, c => by cases c
  | .ty _, _, _, c => by cases c
  | .ins _ _, _, _, c => by cases c
theorem dps_of {B : Hp} : ∀ (ps : List P) {vs : List V}, RpA K B ps vs → PyData.canLayAll0 (P.toDs ps) = true → DpAll K B vs (P.toDs ps)
  | [], _, h, _ => by rw [show _ = ([] : List V) from h]; exact .nil
  | p :: ps, _, ⟨v, r, e, h1, h2⟩, c => by
    rw [e]
    have c' : (PyData.canLay0 p.toD && PyData.canLayAll0 (P.toDs ps)) = true := c
    rw [Bool.and_eq_true] at c'
    exact .cons (dp_of p h1 c'.1) (dps_of ps h2 c'.2)
end
mutual
theorem Dp.up {H H' : Hp} (e : Ex H H') : ∀ (d : PyData) {v : V}, Dp K H v d → Dp K H' v d
  | .none, _, h => by cases h; exact .non
  | .bool b, _, h => by cases h; exact .bl b
  | .int i, _, h => by cases h; exact .int i
  | .str x, _, h => by cases h; exact .str x
  | .list ds, _, h => by
    cases h with
    | lst h1 h2 => exact .lst (e.sqL h1) (DpAll.up e ds h2)
  | .tuple ds, _, h => by
    cases h with
    | tup h1 h2 => exact .tup (e.sqT h1) (DpAll.up e ds h2)
  | .dict _, _, h => by cases h
theorem DpAll.up {H H' : Hp} (e : Ex H H') : ∀ (ds : List PyData) {vs : List V}, DpAll K H vs ds → DpAll K H' vs ds
  | [], _, h => by cases h; exact .nil
  | d :: ds, _, h => by
    cases h with
    | cons h1 h2 => exact .cons (Dp.up e d h1) (DpAll.up e ds h2)
end
def dEqD (p q : P) (Q : P → Prop) : Prop := SeqAt.shaped p.toD = true ∧ SeqAt.shaped q.toD = true ∧ Q (.bl (PyData.eqv p.toD q.toD))
def dNeD (p q : P) (Q : P → Prop) : Prop := SeqAt.shaped p.toD = true ∧ SeqAt.shaped q.toD = true ∧ Q (.bl (!PyData.eqv p.toD q.toD))
theorem os_eqD : OpS K (rEqD K) dEqD := ⟨fun {B H x y p q QD Q} e rx ry r k =>
  ⟨p.toD, q.toD, Dp.up e _ (dp_of p rx (SeqAt.canLay_of_shaped r.1)), Dp.up e _ (dp_of q ry (SeqAt.canLay_of_shaped r.2.1)), r.1, r.2.1, k _ B H _ r.2.2 rfl (.refl e)⟩⟩
theorem os_neD : OpS K (rNeD K) dNeD := ⟨fun {B H x y p q QD Q} e rx ry r k =>
  ⟨p.toD, q.toD, Dp.up e _ (dp_of p rx (SeqAt.canLay_of_shaped r.1)), Dp.up e _ (dp_of q ry (SeqAt.canLay_of_shaped r.2.1)), r.1, r.2.1, k _ B H _ r.2.2 rfl (.refl e)⟩⟩

/-! ### built-ins -/
def dLen : List P → (P → Prop) → Prop
  | [.lst xs], Q => Q (.int xs.length)
  | [.rol xs], Q => Q (.int xs.length)
  | [.tup xs], Q => Q (.int xs.length)
  | [.str z], Q => z.length ≤ sizeLine ∧ Q (.int z.length)
  | _, _ => False
theorem one_rp {B : Hp} {p : P} {xs : List V} (r : RpA K B [p] xs) : ∃ v, xs = [v] ∧ Rp K B p v := by
  obtain ⟨v, l, e1, e2, e3⟩ := r
  exact ⟨v, by rw [e1, show l = [] from e3], e2⟩
theorem two_rp {B : Hp} {p q : P} {xs : List V} (r : RpA K B [p, q] xs) : ∃ v u, xs = [v, u] ∧ Rp K B p v ∧ Rp K B q u := by
  obtain ⟨v, l, e1, e2, e3⟩ := r
  obtain ⟨u, f1, f2⟩ := one_rp e3
  exact ⟨v, u, by rw [e1, f1], e2, f2⟩
theorem cs_len : CbS K (fun xs H Q => ∃ x n, xs = [x] ∧ LenV K x H n ∧ Q (.int n) H) dLen := ⟨fun {B H xs ps QD Q} e r q k => by
  unfold dLen at q
  split at q
  · obtain ⟨v, rfl, a, vs, rfl, h1, h2⟩ := one_rp r
    exact ⟨_, _, rfl, .inl ⟨vs, SqL.of (e a _ h1), rfl⟩, k _ B H _ q (by rw [h2.length]; rfl) (.refl e)⟩
  · obtain ⟨v, rfl, a, vs, rfl, h1, h2⟩ := one_rp r
    exact ⟨_, _, rfl, .inl ⟨vs, e.sqL h1, rfl⟩, k _ B H _ q (by rw [h2.length]; rfl) (.refl e)⟩
  · obtain ⟨v, rfl, a, vs, rfl, h1, h2⟩ := one_rp r
    exact ⟨_, _, rfl, .inr ⟨vs, e.sqT h1, rfl⟩, k _ B H _ q (by rw [h2.length]; rfl) (.refl e)⟩
  · obtain ⟨v, rfl, rfl⟩ := one_rp r
    exact ⟨_, _, rfl, ⟨q.1, rfl⟩, k _ B H _ q.2 rfl (.refl e)⟩
  · exact q.elim⟩
def dInt1 : List P → (P → Prop) → Prop
  | [.int i], Q => Q (.int i)
  | [.bl b], Q => Q (.int (if b then 1 else 0))
  | _, _ => False
theorem cs_int : CbS K (fun xs H Q => (∃ i, xs = [.int i] ∧ Q (.int i) H) ∨ ∃ k, xs = [.bl k] ∧ Q (.int (if k then 1 else 0)) H) dInt1 := ⟨fun {B H xs ps QD Q} e r q k => by
  unfold dInt1 at q
  split at q
  · obtain ⟨v, rfl, rfl⟩ := one_rp r
    exact .inl ⟨_, rfl, k _ B H _ q rfl (.refl e)⟩
  · obtain ⟨v, rfl, rfl⟩ := one_rp r
    exact .inr ⟨_, rfl, k _ B H _ q rfl (.refl e)⟩
  · exact q.elim⟩
def dAbs : List P → (P → Prop) → Prop
  | [.int i], Q => Q (.int (if i < 0 then -i else i))
  | _, _ => False
theorem cs_abs : CbS K (fun xs H Q => ∃ i, xs = [.int i] ∧ Q (.int (if i < 0 then -i else i)) H) dAbs := ⟨fun {B H xs ps QD Q} e r q k => by
  unfold dAbs at q
  split at q
  · obtain ⟨v, rfl, rfl⟩ := one_rp r
    exact ⟨_, rfl, k _ B H _ q rfl (.refl e)⟩
  · exact q.elim⟩
def intsP : List P → Option (List Int)
  | [] => some []
  | .int i :: ps => (intsP ps).map (i :: ·)
  | _ :: _ => none
theorem ints_rp {B : Hp} : ∀ {ps : List P} {vs : List V} {ns : List Int}, RpA K B ps vs → intsP ps = some ns → vs = ns.map V.int
  | [], _, _, h, e => by cases e; exact h
  | .int i :: ps, _, ns, ⟨v, r, e1, e2, e3⟩, e => by
    unfold intsP at e
    cases h : intsP ps with
    | none => rw [h] at e; cases e
    | some ms =>
      rw [h] at e
      cases Option.some.inj e
      rw [e1, ints_rp e3 h, show v = V.int i from e2]
      rfl
  | .non :: _, _, _, _, e => by cases e
  | .bl _ :: _, _, _, _, e => by cases e
  | .str _ :: _, _, _, _, e => by cases e
  | .ob _ :: _, _, _, _, e => by cases e
  | .ty _ :: _, _, _, _, e => by cases e
  | .lst _ :: _, _, _, _, e => by cases e
  | .rol _ :: _, _, _, _, e => by cases e
  | .tup _ :: _, _, _, _, e => by cases e
  | .ins _ _ :: _, _, _, _, e => by cases e
theorem ints_map (ns : List Int) : intsP (ns.map P.int) = some ns := by
  induction ns with
  | nil => rfl
  | cons n ns ih => show (intsP (ns.map P.int)).map (n :: ·) = _; rw [ih]; rfl
def dSum (ps : List P) (Q : P → Prop) : Prop := match ps with
  | [p] => (match plst p with
    | some xs => (match intsP xs with
      | some ns => Q (.int ns.sum)
      | none => False)
    | none => False)
  | _ => False
theorem cs_sum : CbS K (rSum K) dSum := ⟨fun {B H xs ps QD Q} e r q k => by
  unfold dSum at q
  split at q
  · rename_i p
    split at q
    · rename_i ys hp
      split at q
      · rename_i ns hn
        obtain ⟨v, rfl, rv⟩ := one_rp r
        obtain ⟨a, vs, rfl, h1, h2⟩ := plst_rp rv hp
        rw [ints_rp h2 hn] at h1
        exact ⟨a, ns, rfl, e.sqL h1, k _ B H _ q rfl (.refl e)⟩
      · exact q.elim
    · exact q.elim
  · exact q.elim⟩
def dListOf (ps : List P) (Q : List P → Prop) : Prop := match ps with
  | [.lst xs] => Q xs
  | [.rol xs] => Q xs
  | [.tup xs] => Q xs
  | _ => False
theorem cs_list : CbO K (fun xs H Q => ∃ p ys, xs = [.ref p] ∧ (SqL K H p ys ∨ SqT K H p ys) ∧ ∀ l, H l = none → Q (.ref l) (upd H l (.lst ys))) dListOf := ⟨fun {B H xs ps QD Q} e r q k => by
  unfold dListOf at q
  split at q
  · obtain ⟨v, rfl, a, vs, rfl, h1, h2⟩ := one_rp r
    exact ⟨a, vs, rfl, .inl (SqL.of (e a _ h1)), fun l hl => k l vs _ q h2 hl⟩
  · obtain ⟨v, rfl, a, vs, rfl, h1, h2⟩ := one_rp r
    exact ⟨a, vs, rfl, .inl (e.sqL h1), fun l hl => k l vs _ q h2 hl⟩
  · obtain ⟨v, rfl, a, vs, rfl, h1, h2⟩ := one_rp r
    exact ⟨a, vs, rfl, .inr (e.sqT h1), fun l hl => k l vs _ q h2 hl⟩
  · exact q.elim⟩
def dTupOf (ps : List P) (Q : P → Prop) : Prop := match ps with
  | [.lst xs] => Q (.tup xs)
  | [.rol xs] => Q (.tup xs)
  | [.tup xs] => Q (.tup xs)
  | _ => False
theorem cs_tuple : CbS K (fun xs H Q => ∃ p ys, xs = [.ref p] ∧ ((SqL K H p ys ∧ ∀ l, H l = none → Q (.ref l) (upd H l (.tup ys))) ∨ (SqT K H p ys ∧ Q (.ref p) H))) dTupOf := ⟨fun {B H xs ps QD Q} e r q k => by
  unfold dTupOf at q
  split at q
  · obtain ⟨v, rfl, a, vs, rfl, h1, h2⟩ := one_rp r
    refine ⟨a, vs, rfl, .inl ⟨SqL.of (e a _ h1), fun l hl => ?_⟩⟩
    have g := gr_new (o := .tup vs) e hl
    exact k _ _ _ _ q ⟨l, vs, rfl, SqT.of upd_same, RpA.mono g.b _ h2⟩ g
  · obtain ⟨v, rfl, a, vs, rfl, h1, h2⟩ := one_rp r
    refine ⟨a, vs, rfl, .inl ⟨e.sqL h1, fun l hl => ?_⟩⟩
    have g := gr_new (o := .tup vs) e hl
    exact k _ _ _ _ q ⟨l, vs, rfl, SqT.of upd_same, RpA.mono g.b _ h2⟩ g
  · obtain ⟨v, rfl, a, vs, rfl, h1, h2⟩ := one_rp r
    exact ⟨a, vs, rfl, .inr ⟨e.sqT h1, k _ B H _ q ⟨a, vs, rfl, h1, h2⟩ (.refl e)⟩⟩
  · exact q.elim⟩
/-- [x] * n -/
def dRep : P → P → (D → Prop) → Prop
  | .lst xs, .int n, Q => -(2 ^ 63) ≤ n ∧ n < 2 ^ 63 ∧ xs.length * n.toNat ≤ sizeLine ∧ Q (.ol (List.replicate n.toNat xs).flatten)
  | _, _, _ => False
theorem rep_flat {B : Hp} {ps : List P} {vs : List V} (h : RpA K B ps vs) : ∀ n : Nat, RpA K B (List.replicate n ps).flatten (List.replicate n vs).flatten
  | 0 => rfl
  | n + 1 => by
    rw [List.replicate_succ, List.flatten_cons, List.replicate_succ, List.flatten_cons]
    exact h.append (rep_flat h n)
/-! ### isinstance with a built-in class -/
def tyN : P → Option String
  | .non => some "NoneType"
  | .bl _ => some "bool"
  | .int _ => some "int"
  | .str _ => some "str"
  | .lst _ => some "list"
  | .rol _ => some "list"
  | .tup _ => some "tuple"
  | _ => none
def dIsi (ps : List P) (Q : P → Prop) : Prop := match ps with
  | [p, .ty n] => (match tyN p with
    | some t => ∃ b, kitB t n = some b ∧ Q (.bl b)
    | none => False)
  | _ => False
theorem tyx_of {B H : Hp} (e : Ex B H) : ∀ {p : P} {v : V} {t : String}, Rp K B p v → tyN p = some t → TyX K H v (.type t)
  | .non, _, _, r, h => by cases h; rw [show _ = V.non from r]; exact .base .non
  | .bl b, _, _, r, h => by cases h; rw [show _ = V.bl b from r]; exact .base (.bl b)
  | .int b, _, _, r, h => by cases h; rw [show _ = V.int b from r]; exact .base (.int b)
  | .str b, _, _, r, h => by cases h; rw [show _ = V.str b from r]; exact .base (.str b)
  | .lst b, _, _, ⟨a, vs, e1, h1, _⟩, h => by cases h; rw [e1]; exact .base (.lst (e a _ h1))
  | .rol b, _, _, ⟨a, vs, e1, h1, _⟩, h => by
    cases h
    rw [e1]
    rcases e.sqL h1 with (h2 | ⟨o, h2⟩) | ⟨o, its, n, g1, g2, _⟩
    · exact .base (.lst h2)
    · exact .base (.frz h2)
    · exact .kList g1 g2
  | .tup b, _, _, ⟨a, vs, e1, h1, _⟩, h => by
    cases h
    rw [e1]
    rcases e.sqT h1 with (h2 | ⟨o, h2⟩) | ⟨o, its, n, g1, g2, _⟩
    · exact .base (.tup h2)
    · exact .fTuple h2
    · exact .kTuple g1 g2
  | .ob _, _, _, _, h => by cases h
  | .ty _, _, _, _, h => by cases h
  | .ins _ _, _, _, _, h => by cases h
theorem cs_isi : CbS K (rIsi K) dIsi := ⟨fun {B H xs ps QD Q} e r q k => by
  unfold dIsi at q
  split at q
  · rename_i p n
    split at q
    · rename_i t ht
      obtain ⟨b, hb, q⟩ := q
      obtain ⟨v, u, rfl, r1, r2⟩ := two_rp r
      rw [show u = V.ty n from r2]
      exact ⟨v, .ty n, .type t, .type n, b, rfl, .ty n, tyx_of e r1 ht, kit_ty hb, k _ B H _ q rfl (.refl e)⟩
    · exact q.elim
  · exact q.elim⟩
end
end DL
set_option Elab.async false
set_option linter.all false
set_option maxRecDepth 100000
set_option maxHeartbeats 2000000
namespace DL
open PySem PySem.Spec L2
/-! ### what zip and enumerate walk: lists, tuples, texts in any mix -/
inductive Src where
  | L (a : Addr) | T (a : Addr) | S (z : Str)
def Src.v : Src → V
  | .L a => .ref a
  | .T a => .ref a
  | .S z => .str z
def Src.Has (K : PySem.W.Frag) (H : Hp) : Src → List V → Prop
  | .L a, xs => SqL K H a xs
  | .T a, xs => SqT K H a xs
  | .S z, xs => xs = z.cps.toList.map fun c => V.str ⟨#[c]⟩
/-- its iterator at the turn i -/
def Src.At (h : Heap) (it : Addr) (i : Nat) : Src → Prop
  | .L a => h.IsListIter it a i
  | .T a => h.IsTupleIter it a i
  | .S z => ∃ t, h.IsStrIter it (strIterType z) z t i
def Src.addr : Src → List Addr
  | .L a => [a]
  | .T a => [a]
  | .S _ => []
theorem Src.At.keep {h h' : Heap} {it : Addr} {i : Nat} : ∀ {x : Src}, x.At h it i → (∀ o, h.get? it = some o → h'.get? it = some o) → x.At h' it i
  | .L a, st, k => st.at k
  | .T a, st, k => st.at k
  | .S z, ⟨t, o, ho, r⟩, k => ⟨t, o, k o ho, r⟩
theorem Src.At.obj {h : Heap} {it : Addr} {i : Nat} : ∀ {x : Src}, x.At h it i → ∃ o, h.get? it = some o ∧ ∀ v, o.data ≠ .cell v
  | .L a, ⟨o, e, _, d⟩ => ⟨o, e, fun v q => by rw [d] at q; cases q⟩
  | .T a, ⟨o, e, _, d⟩ => ⟨o, e, fun v q => by rw [d] at q; cases q⟩
  | .S z, ⟨t, o, e, _, d⟩ => ⟨o, e, fun v q => by rw [d] at q; cases q⟩
theorem str_ty (z : Str) : strIterType z = "str_ascii_iterator" ∨ strIterType z = "str_iterator" := by
  unfold strIterType
  split
  · exact .inl rfl
  · exact .inr rfl
section
variable {X : Cx} {pins : List (Addr × Obj)} {σ : L2.St} {H : Hp} {s : Shared}
/-- what such an iterator draws -/
theorem src_draws (I : Inv X pins σ H s) {A : Around} (hh : A.handled = none) {x : Src} {xs : List V} (hq : x.Has X.K H xs) {it : Addr} {i : Nat} (st : x.At s.heap it i) (hne : ∀ a ∈ x.addr, a ≠ it) :
    ∃ (P : Nat → Value → Prop) (St : Nat → Heap → Prop), Draws X.prog X.w A it (it :: x.addr) xs.length P St ∧ St i s.heap ∧ (∀ j h, St j h → x.At h it j) ∧ ∀ j u, P j u → ∃ y, xs[j]? = some y ∧ RelV y u := by
  cases x with
  | L a =>
    obtain ⟨its, rv, p, _⟩ := I.list hq
    have hl := rv.length
    have D := Draws.list (prog := X.prog) (w := X.w) hh it a (hne a (by simp [Src.addr])) its.toArray
    rw [show its.toArray.size = xs.length by simp; omega] at D
    refine ⟨_, _, D, ⟨st, p.isList⟩, fun j h q => q.1, fun j u hu => ?_⟩
    have hu' : its[j]? = some u := by simpa using hu
    cases hy : xs[j]? with
    | none => rw [rv.none_of hy] at hu'; cases hu'
    | some y =>
      obtain ⟨u2, h1, h2⟩ := rv.get hy
      rw [hu'] at h1
      cases h1
      exact ⟨y, rfl, h2⟩
  | T a =>
    obtain ⟨its, rv, p, _⟩ := I.tuple hq
    have hl := rv.length
    have D := Draws.tuple (prog := X.prog) (w := X.w) hh it a (hne a (by simp [Src.addr])) its.toArray
    rw [show its.toArray.size = xs.length by simp; omega] at D
    refine ⟨_, _, D, ⟨st, p⟩, fun j h q => q.1, fun j u hu => ?_⟩
    have hu' : its[j]? = some u := by simpa using hu
    cases hy : xs[j]? with
    | none => rw [rv.none_of hy] at hu'; cases hu'
    | some y =>
      obtain ⟨u2, h1, h2⟩ := rv.get hy
      rw [hu'] at h1
      cases h1
      exact ⟨y, rfl, h2⟩
  | S z =>
    obtain ⟨t, st⟩ := st
    have D := Draws.text (prog := X.prog) (w := X.w) hh it z t
    have hz : xs = z.cps.toList.map fun c => V.str ⟨#[c]⟩ := hq
    rw [show z.cps.size = xs.length by rw [hz]; simp] at D
    refine ⟨_, _, D, st, fun j h q => ⟨t, q⟩, fun j u hu => ?_⟩
    obtain ⟨c, w, hc, rfl⟩ := hu
    refine ⟨.str ⟨#[c]⟩, ?_, ⟨w, rfl⟩⟩
    rw [hz, List.getElem?_map, show z.cps.toList[j]? = some c by simpa using hc]
    rfl
theorem src_inj (I : Inv X pins σ H s) {x : Src} {xs ys : List V} (h : x.Has X.K H xs) (g : x.Has X.K H ys) : xs = ys := by
  cases x with
  | L a => exact I.list_inj h g
  | T a => exact I.tuple_inj h g
  | S z => rw [show xs = _ from h, show ys = _ from g]
end
def ItzG (K : PySem.W.Frag) (a b : Src) : It :=
  ⟨fun i H => ∃ (xs ys : List V) (x y : V), a.Has K H xs ∧ b.Has K H ys ∧ xs[i]? = some x ∧ ys[i]? = some y,
    fun i H v H' => ∃ T x y, v = .ref T ∧ H T = none ∧ H' = upd H T (.tup [x, y]) ∧ (∀ xs, a.Has K H xs → xs[i]? = some x) ∧ ∀ ys, b.Has K H ys → ys[i]? = some y,
    fun i H => ∃ xs ys : List V, a.Has K H xs ∧ b.Has K H ys ∧ i ≤ xs.length ∧ i ≤ ys.length ∧ (xs.length ≤ i ∨ ys.length ≤ i)⟩
theorem turn_zipG {P : Program} {w : World} {K : PySem.W.Frag} {elts : List Expr} {kk : Nat} {tpos : Pos} {a b : Src} {N : Nat} (ha : ∀ c ∈ a.addr, c < N) (hb : ∀ c ∈ b.addr, c < N) :
    Turn P w K (.Tuple elts kk tpos) (ItzG K a b) [N + 4, N + 2, N + 3, N, N + 1] (N + 4) (fun i h => IsZip h (N + 4) (N + 2) (N + 3) .none ∧ IsTupOf2 h (N + 2) (.ref N) (.ref (N + 1)) ∧ (∃ x y, IsTupOf2 h (N + 3) x y) ∧ a.At h N i ∧ b.At h (N + 1) i) where
  mem := by simp
  obj := fun i h st c hc => by
    obtain ⟨hz, hTI, ⟨x, y, hTO⟩, h1, h2⟩ := st
    have e' : c = N + 4 ∨ c = N + 2 ∨ c = N + 3 ∨ c = N ∨ c = N + 1 := by simpa using hc
    rcases e' with q | q | q | q | q
    · rw [q]; exact ⟨_, hz, fun v q => nomatch q⟩
    · rw [q]; exact ⟨_, hTI, fun v q => nomatch q⟩
    · rw [q]; exact ⟨_, hTO, fun v q => nomatch q⟩
    · rw [q]; exact h1.obj
    · rw [q]; exact h2.obj
  keep := fun i h h' st k => by
    obtain ⟨hz, hTI, ⟨x, y, hTO⟩, h1, h2⟩ := st
    exact ⟨k _ (by simp) _ hz, k _ (by simp) _ hTI, ⟨x, y, k _ (by simp) _ hTO⟩, h1.keep fun o q => k N (by simp) o q, h2.keep fun o q => k (N + 1) (by simp) o q⟩
  item := by
    intro X hP hw hK hc i pins s σ H E I hf st hg
    subst hP hw hK
    obtain ⟨hz, hTI, ⟨x0, y0, hTO⟩, h1, h2⟩ := st
    obtain ⟨xs, ys, x, y, hqx, hqy, hx, hy⟩ := hg
    have hh : X.A.in1.handled = none := I.ok.hd hc
    obtain ⟨P1, S1, D1, s1, k1, r1⟩ := src_draws I hh hqx h1 fun c hm => Nat.ne_of_lt (ha c hm)
    obtain ⟨P2, S2, D2, s2, k2, r2⟩ := src_draws I hh hqy h2 fun c hm => Nat.ne_of_lt (Nat.lt_succ_of_lt (hb c hm))
    have hzl : N + 4 < s.heap.objs.size := Heap.lt_size hz
    have hi1 := (List.getElem?_eq_some_iff.mp hx).1
    have hi2 := (List.getElem?_eq_some_iff.mp hy).1
    refine wpAny_pyNext_zipD2_item (zip_sep2 ha hb) D1 D2 hz hTI hTO s1 s2 hi1 hi2 fun u1 u2 h' tk p1 p2 z' TO' h1' h2' hT hsz hk => ?_
    obtain ⟨y1, e1, ru1⟩ := r1 i u1 p1
    obtain ⟨y2, e2, ru2⟩ := r2 i u2 p2
    rw [hx] at e1; cases e1
    rw [hy] at e2; cases e2
    refine ⟨_, rfl, wpAny_letOwnedTupleGo_zip (s := { s with heap := h', toks := tk }) z' fun h'' z'' sb => ?_⟩
    have hT2 : h''.get? s.heap.objs.size = some { cls := .type "tuple", data := .seq #[u1, u2] } := (sb.2 _ (Nat.ne_of_gt hzl)).trans hT
    have new : ObjOk X.prog X.w (upd H s.heap.objs.size (.tup [x, y])) h'' s.heap.objs.size (.tup [x, y]) :=
      ⟨by show 2 ≤ sizeLine; decide, [u1, u2], .cons ru1 (.cons ru2 .nil), ⟨_, hT2, rfl, _, rfl⟩⟩
    have I1 : Inv X pins σ (upd H s.heap.objs.size (.tup [x, y])) { s with heap := h'', toks := tk } :=
      I.turnedNew (ch := [N + 4, N + 2, N + 3, N, N + 1]) (fun c o hb q => (sb.2 c (fun q' => hb (by simp [q']))).trans (hk c o (fun q' => hb (by simp [q'])) (fun q' => hb (by simp [q'])) (fun q' => hb (by simp [q'])) (fun q' => hb (by simp [q'])) q)) hf (Nat.le_refl _) new
    refine ⟨.ref s.heap.objs.size, _, I1, rfl, ⟨_, x, y, rfl, I.hok.fresh (Nat.le_refl _), rfl, fun l hl => by rw [src_inj I hl hqx]; exact hx, fun l hl => by rw [src_inj I hl hqy]; exact hy⟩, ⟨z'', ?_, ⟨u1, u2, ?_⟩, ?_, ?_⟩, fun c hcm => ?_⟩
    · exact (sb.2 _ (show (N + 2 : Nat) ≠ N + 4 by omega)).trans (hk _ _ (show (N + 2 : Nat) ≠ N + 4 by omega) (show (N + 2 : Nat) ≠ N + 3 by omega) (show (N + 2 : Nat) ≠ N by omega) (show (N + 2 : Nat) ≠ N + 1 by omega) hTI)
    · exact (sb.2 _ (show (N + 3 : Nat) ≠ N + 4 by omega)).trans TO'
    · exact (k1 _ _ h1').keep fun o q => (sb.2 _ (show (N : Nat) ≠ N + 4 by omega)).trans q
    · exact (k2 _ _ h2').keep fun o q => (sb.2 _ (show (N + 1 : Nat) ≠ N + 4 by omega)).trans q
    · have hlt : c < s.heap.objs.size := by
        have e' : c = N + 4 ∨ c = N + 2 ∨ c = N + 3 ∨ c = N ∨ c = N + 1 := by simpa using hcm
        rcases e' with q | q | q | q | q
        · rw [q]; exact hzl
        · rw [q]; exact Heap.lt_size hTI
        · rw [q]; exact Heap.lt_size hTO
        · rw [q]; obtain ⟨_, e1, _⟩ := h1.obj; exact Heap.lt_size e1
        · rw [q]; obtain ⟨_, e2, _⟩ := h2.obj; exact Heap.lt_size e2
      rw [upd_ne (Nat.ne_of_lt hlt)]
      exact (hf c hcm).1
  done := by
    intro X hP hw hK hc i pins s σ H E I hf st hg
    subst hP hw hK
    obtain ⟨hz, hTI, ⟨x0, y0, hTO⟩, h1, h2⟩ := st
    obtain ⟨xs, ys, hqx, hqy, hi1, hi2, hend⟩ := hg
    have hh : X.A.in1.handled = none := I.ok.hd hc
    obtain ⟨P1, S1, D1, s1, k1, r1⟩ := src_draws I hh hqx h1 fun c hm => Nat.ne_of_lt (ha c hm)
    obtain ⟨P2, S2, D2, s2, k2, r2⟩ := src_draws I hh hqy h2 fun c hm => Nat.ne_of_lt (Nat.lt_succ_of_lt (hb c hm))
    exact wpAny_pyNext_zipD2_end (zip_sep2 ha hb) D1 D2 hz hTI hTO s1 s2 hi1 hi2 (hend.imp (fun q => by omega) (fun q => by omega)) fun h' tk hk => ⟨rfl, I.turnedL (t' := tk) (ch := [N + 4, N + 2, N + 3, N, N + 1]) (fun c o hb q =>
      hk c o (fun q' => hb (by simp [q'])) (fun q' => hb (by simp [q'])) (fun q' => hb (by simp [q'])) (fun q' => hb (by simp [q'])) q) hf⟩
  self := fun A i s Q E st h => wpAny_pyIter_zip st.1 h
def iZipG (K : PySem.W.Frag) (ta : TA) : TI := fun σ H R => ta σ H fun vs H1 => ∃ (a b : Src) (xs ys : List V), vs = [a.v, b.v] ∧ a.Has K H1 xs ∧ b.Has K H1 ys ∧ R (ItzG K a b) H1
section
variable {X : Cx} {pins : List (Addr × Obj)} {σ : L2.St} {H : Hp} {s : Shared}
/-- how its iterator begins -/
theorem src_begins (I : Inv X pins σ H s) {x : Src} {xs : List V} {u : Value} (hq : x.Has X.K H xs) (r : RelV x.v u) :
    ∃ (o : Obj) (Hh : Heap → Prop), Begins u o Hh ∧ Hh s.heap ∧ (∀ c ∈ x.addr, c < s.heap.objs.size) ∧ ∀ h it, h.get? it = some o → x.At h it 0 := by
  cases x with
  | L a =>
    cases (show u = Value.ref a from r)
    obtain ⟨its, rv, p, _⟩ := I.list hq
    exact ⟨_, _, begins_list a its.toArray, p.isList, fun c hc => by rw [List.mem_singleton.mp hc]; exact p.lt, fun h it e => ⟨_, e, rfl, rfl⟩⟩
  | T a =>
    cases (show u = Value.ref a from r)
    obtain ⟨its, rv, p, _⟩ := I.tuple hq
    exact ⟨_, _, begins_tuple a its.toArray, p, fun c hc => by rw [List.mem_singleton.mp hc]; exact p.lt, fun h it e => ⟨_, e, rfl, rfl⟩⟩
  | S z =>
    obtain ⟨t, rfl⟩ := r
    exact ⟨_, _, begins_text z t, trivial, fun c hc => absurd hc List.not_mem_nil, fun h it e => ⟨t, _, e, rfl, rfl⟩⟩
theorem pi_zipG {e e2 : Expr} {ta : TA} {p pos tpos : Pos} {elts : List Expr} {kk : Nat} (hg : Gl X "zip") (hm : X.mg "zip" = none) (ha : PA X [e, e2] ta)
    (hs : starEach [e, e2] X.env = (false, eval e X.env) :: starEach [e2] X.env := by rfl) (hpl : (backTo pos (starEach [e2] X.env)).any (·.1) = false := by rfl) :
    PI X (.Tuple elts kk tpos) (.Call (.Name "zip" p) [e, e2] [] pos) (iZipG X.K ta) := by
  refine ⟨fun pins s σ H R I h => ?_⟩
  refine PyProof.Rows.Call_ (ld_blt I hg hm PyProof.Rows.boot_zip (PyProof.Rows.callWith_type1 (thn (ha.run pos pins s σ H _ I h) fun us s1 ⟨vs, H1, I1, r1, q1⟩ => ?_) hs hpl))
  obtain ⟨a, b, xs, ys, ex, hqx, hqy, q⟩ := q1
  subst ex
  cases r1 with
  | cons r rr =>
    cases rr with
    | cons r' rr =>
      cases rr
      obtain ⟨o1, Hh1, B1, g1, l1, a1⟩ := src_begins I1 hqx r
      obtain ⟨o2, Hh2, B2, g2, l2, a2⟩ := src_begins I1 hqy r'
      refine zip_begins2 B1 B2 g1 g2 fun h' hz hTI hTO h1 h2 hsz hk => wpAny_pyIter_zip hz ?_
      have I2 : Inv X pins σ H1 { s1 with heap := h' } := I1.kept (t' := s1.toks) hk
      refine ⟨s1.heap.objs.size + 4, [s1.heap.objs.size + 4, s1.heap.objs.size + 2, s1.heap.objs.size + 3, s1.heap.objs.size, s1.heap.objs.size + 1], _, _, H1, rfl, I2, turn_zipG l1 l2, ⟨hz, hTI, ⟨_, _, hTO⟩, a1 _ _ h1, a2 _ _ h2⟩, fun c hcm => ?_, q⟩
      have e' : c = s1.heap.objs.size + 4 ∨ c = s1.heap.objs.size + 2 ∨ c = s1.heap.objs.size + 3 ∨ c = s1.heap.objs.size ∨ c = s1.heap.objs.size + 1 := by simpa using hcm
      have hle : s1.heap.objs.size ≤ c := by
        rcases e' with z | z | z | z | z
        · rw [z]; exact Nat.le_add_right _ _
        · rw [z]; exact Nat.le_add_right _ _
        · rw [z]; exact Nat.le_add_right _ _
        · rw [z]; exact Nat.le_refl _
        · rw [z]; exact Nat.le_add_right _ _
      exact I1.fpOk hle (I1.hok.fresh hle)
end
/-! ### over data -/
/-- the items of what can be walked -/
def pseq : P → Option (List P)
  | .lst ps => some ps
  | .rol ps => some ps
  | .tup ps => some ps
  | .str z => some (z.cps.toList.map fun c => P.str ⟨#[c]⟩)
  | _ => none
section
variable {m : Bool} {K : PySem.W.Frag} {te ta' tb' : TE} {de da' db' : dE} {ta : TA} {da : dA} {X : Cx} {a b c e e2 : Expr} {es : List Expr} {pos : Pos}
theorem rpa_str {B : Hp} (cs : List Nat) : RpA K B (cs.map fun c => P.str ⟨#[c]⟩) (cs.map fun c => V.str ⟨#[c]⟩) := by
  induction cs with
  | nil => rfl
  | cons c cs ih => exact ⟨_, _, rfl, rfl, ih⟩
theorem pseq_src {B : Hp} {p : P} {v : V} {ps : List P} (r : Rp K B p v) (h : pseq p = some ps) : ∃ (x : Src) (vs : List V), v = x.v ∧ x.Has K B vs ∧ RpA K B ps vs := by
  cases p with
  | lst qs => cases h; obtain ⟨a, vs, e1, e2, e3⟩ := r; exact ⟨.L a, vs, e1, SqL.of e2, e3⟩
  | rol qs => cases h; obtain ⟨a, vs, e1, e2, e3⟩ := r; exact ⟨.L a, vs, e1, e2, e3⟩
  | tup qs => cases h; obtain ⟨a, vs, e1, e2, e3⟩ := r; exact ⟨.T a, vs, e1, e2, e3⟩
  | str z => cases h; exact ⟨.S z, _, r, rfl, rpa_str _⟩
  | _ => cases h
theorem Src.Has.up {B H : Hp} (e : Ex B H) : ∀ {x : Src} {vs : List V}, x.Has K B vs → x.Has K H vs
  | .L a, _, h => e.sqL h
  | .T a, _, h => e.sqT h
  | .S z, _, h => h
def zipP : List P → List P → List P
  | p :: ps, q :: qs => .tup [p, q] :: zipP ps qs
  | _, _ => []
theorem zipP_get : ∀ {ps qs : List P} {i : Nat} {r : P}, (zipP ps qs)[i]? = some r → ∃ p q, ps[i]? = some p ∧ qs[i]? = some q ∧ r = .tup [p, q]
  | [], _, _, _, h => by simp [zipP] at h
  | _ :: _, [], _, _, h => by simp [zipP] at h
  | p :: ps, q :: qs, 0, r, h => by cases h; exact ⟨p, q, rfl, rfl, rfl⟩
  | p :: ps, q :: qs, i + 1, r, h => zipP_get (ps := ps) (qs := qs) (i := i) h
theorem zipP_len : ∀ (ps qs : List P), (zipP ps qs).length = min ps.length qs.length
  | [], _ => by simp [zipP]
  | _ :: _, [] => by simp [zipP]
  | p :: ps, q :: qs => by show (zipP ps qs).length + 1 = _; rw [zipP_len]; simp only [List.length_cons]; omega
theorem itok_zip {B0 : Hp} {x y : Src} {ps qs : List P} {vs us : List V} (h1 : x.Has K B0 vs) (r1 : RpA K B0 ps vs) (h2 : y.Has K B0 us) (r2 : RpA K B0 qs us) : ItOk K (ItzG K x y) B0 (zipP ps qs) := fun B H i e1 e2 hle => by
  have g1 := h1.up (e1.trans e2)
  have g2 := h2.up (e1.trans e2)
  have l1 := r1.length
  have l2 := r2.length
  have l3 := zipP_len ps qs
  refine ⟨fun p hp => ?_, fun hge => ⟨vs, us, g1, g2, by omega, by omega, by omega⟩⟩
  obtain ⟨p1, p2, k1, k2, rfl⟩ := zipP_get hp
  obtain ⟨v1, w1, z1⟩ := r1.get k1
  obtain ⟨v2, w2, z2⟩ := r2.get k2
  refine ⟨⟨vs, us, v1, v2, g1, g2, w1, w2⟩, fun z H2 hz => ?_⟩
  obtain ⟨T, a, b, rfl, hT, rfl, f1, f2⟩ := hz
  have := f1 vs g1
  rw [w1] at this; cases this
  have := f2 us g2
  rw [w2] at this; cases this
  have g := gr_new (o := .tup [v1, v2]) e2 hT
  exact ⟨_, g, T, [v1, v2], rfl, SqT.of upd_same, v1, [v2], rfl, Rp.mono (e1.trans g.b) _ z1, v2, [], rfl, Rp.mono (e1.trans g.b) _ z2, rfl⟩
def zipQ (as : List AR) (f : List P → Prop) : Prop := match as with
  | [.inl p, .inl q] => (match pseq p, pseq q with
    | some ps, some qs => f (zipP ps qs)
    | _, _ => False)
  | _ => False
def diZ (da : dA) : dI := fun env Q => da env fun as e => zipQ as fun ps => Q ps e
theorem snd_iz (h : SndA m K ta da) : SndI m K (iZipG K ta) (diZ da) := ⟨fun {B H σ env G QD R} w q k => h.run w q fun as e vs B1 H1 G1 q1 w1 r1 s1 u1 => by
  change zipQ as fun ps => QD ps e at q1
  unfold zipQ at q1
  split at q1
  · rename_i p q
    split at q1
    · rename_i ps qs hp hq
      obtain ⟨v, l, rfl, z1, u, l2, rfl, z2, z3⟩ := r1
      cases (show l2 = [] from z3)
      obtain ⟨x, vs, rfl, f1, f2⟩ := pseq_src z1 hp
      obtain ⟨y, us, rfl, g1, g2⟩ := pseq_src z2 hq
      exact ⟨x, y, vs, us, rfl, f1.up w1.ex, g1.up w1.ex, k _ e B1 H1 G1 _ q1 w1 s1 u1 (itok_zip f1 f2 g1 g2)⟩
    · exact q1.elim
  · exact q1.elim⟩
theorem di_zip {p pos tpos : Pos} {elts : List Expr} {kk : Nat} (hg : Gl X "zip") (hm : X.mg "zip" = none) (ha : DA m X [e, e2] ta da)
    (hs : starEach [e, e2] X.env = (false, eval e X.env) :: starEach [e2] X.env := by rfl) (hpl : (backTo pos (starEach [e2] X.env)).any (·.1) = false := by rfl) :
    DI m X (.Tuple elts kk tpos) (.Call (.Name "zip" p) [e, e2] [] pos) (iZipG X.K ta) (diZ da) := ⟨pi_zipG hg hm ha.pe hs hpl, snd_iz ha.sd⟩

/-! ### one source -/
def ItS (K : PySem.W.Frag) : Src → It
  | .L a => Itl K a
  | .T a => Itt K a
  | .S z => Its z
def iSeq (K : PySem.W.Frag) (te : TE) : TI := fun σ H R => te σ H fun v H1 => ∃ (x : Src) (xs : List V), v = x.v ∧ x.Has K H1 xs ∧ R (ItS K x) H1
theorem pi_seq {tg : Expr} (hl : PE X e te) : PI X tg e (iSeq X.K te) := by
  refine ⟨fun pins s σ H R I h => ?_⟩
  refine thn (hl.run pins s σ H _ I h) fun v s1 ⟨x, H1, I1, r1, q1⟩ => ?_
  obtain ⟨y, xs, rfl, hq, q⟩ := q1
  have fr : ∀ b ∈ [s1.heap.objs.size], FpOk X pins H1 b := fun b hb => by
    rw [List.mem_singleton.mp hb]
    exact I1.fpOk (Nat.le_refl _) (I1.hok.fresh (Nat.le_refl _))
  cases y with
  | L a =>
    cases (show v = Value.ref a from r1)
    obtain ⟨its, rv, p, hz⟩ := I1.list hq
    refine wpAny_pyIter_list p.isList ?_
    exact ⟨s1.heap.objs.size, [s1.heap.objs.size], _, _, H1, rfl, I1.kept (t' := s1.toks) fun b o e => Heap.get?_push_of_some _ e, turn_list a _, ⟨_, Heap.get?_push_size _ rfl, rfl, rfl⟩, fr, q⟩
  | T a =>
    cases (show v = Value.ref a from r1)
    obtain ⟨its, rv, p, hz⟩ := I1.tuple hq
    refine wpAny_pyIter_tuple (show s1.heap.IsTuple a its.toArray from p) ?_
    exact ⟨s1.heap.objs.size, [s1.heap.objs.size], _, _, H1, rfl, I1.kept (t' := s1.toks) fun b o e => Heap.get?_push_of_some _ e, turn_tuple a _, ⟨_, Heap.get?_push_size _ rfl, rfl, rfl⟩, fr, q⟩
  | S z =>
    obtain ⟨t, rfl⟩ := r1
    refine wpAny_pyIter_strU ?_
    exact ⟨s1.heap.objs.size, [s1.heap.objs.size], _, _, H1, rfl, I1.kept (t' := s1.toks) fun b o e => Heap.get?_push_of_some _ e, turn_str _ z t _ (str_ty z), ⟨_, Heap.get?_push_size _ rfl, rfl, rfl⟩, fr, q⟩
def diS (de : dE) : dI := fun env Q => de env fun p e => match pseq p with
  | some ps => Q ps e
  | none => False
theorem itok_src {B0 : Hp} {x : Src} {ps : List P} {vs : List V} (h1 : x.Has K B0 vs) (r1 : RpA K B0 ps vs) : ItOk K (ItS K x) B0 ps := fun B H i e1 e2 hle => by
  have g1 := h1.up (e1.trans e2)
  have l1 := r1.length
  cases x with
  | L a =>
    refine ⟨fun p hp => ?_, fun hge => ⟨vs, g1, by omega⟩⟩
    obtain ⟨v1, w1, z1⟩ := r1.get hp
    refine ⟨⟨vs, v1, g1, w1⟩, fun z H2 hz => ?_⟩
    obtain ⟨rfl, f1⟩ := hz
    have := f1 vs g1
    rw [w1] at this; cases this
    exact ⟨B, .refl e2, Rp.mono e1 _ z1⟩
  | T a =>
    refine ⟨fun p hp => ?_, fun hge => ⟨vs, g1, by omega⟩⟩
    obtain ⟨v1, w1, z1⟩ := r1.get hp
    refine ⟨⟨vs, v1, g1, w1⟩, fun z H2 hz => ?_⟩
    obtain ⟨rfl, f1⟩ := hz
    have := f1 vs g1
    rw [w1] at this; cases this
    exact ⟨B, .refl e2, Rp.mono e1 _ z1⟩
  | S z =>
    have hv : vs = z.cps.toList.map fun c => V.str ⟨#[c]⟩ := h1
    have hl : vs.length = z.cps.size := by rw [hv]; simp
    refine ⟨fun p hp => ?_, fun hge => show z.cps.size ≤ i by omega⟩
    obtain ⟨v1, w1, z1⟩ := r1.get hp
    have hi := (List.getElem?_eq_some_iff.mp w1).1
    refine ⟨show i < z.cps.size by omega, fun y H2 hy => ?_⟩
    obtain ⟨rfl, c, hc, rfl⟩ := hy
    rw [hv, List.getElem?_map, show z.cps.toList[i]? = some c by simpa using hc] at w1
    cases w1
    exact ⟨B, .refl e2, Rp.mono e1 _ z1⟩
theorem snd_is (h : SndE m K te de) : SndI m K (iSeq K te) (diS de) := ⟨fun {B H σ env G QD R} w q k => h.run w q fun p e v B1 H1 G1 q1 w1 r1 s1 u1 => by
  change (match pseq p with | some ps => QD ps e | none => False) at q1
  split at q1
  · rename_i ps hp
    obtain ⟨x, vs, rfl, f1, f2⟩ := pseq_src r1 hp
    exact ⟨x, vs, rfl, f1.up w1.ex, k _ e B1 H1 G1 _ q1 w1 s1 u1 (itok_src f1 f2)⟩
  · exact q1.elim⟩
theorem di_seq {tg : Expr} (h : DE m X e te de) : DI m X tg e (iSeq X.K te) (diS de) := ⟨pi_seq h.pe, snd_is h.sd⟩
/-! ### ranges -/
def rngP (lo : Int) (n : Nat) : List P := (List.range n).map fun (i : Nat) => P.int (lo + (i : Int))
theorem rngP_len (lo : Int) (n : Nat) : (rngP lo n).length = n := by unfold rngP; simp
theorem rngP_get {lo : Int} {n i : Nat} {p : P} (h : (rngP lo n)[i]? = some p) : i < n ∧ p = .int (lo + (i : Int)) := by
  unfold rngP at h
  rw [List.getElem?_map] at h
  by_cases hi : i < n
  · rw [List.getElem?_range hi] at h
    cases h
    exact ⟨hi, rfl⟩
  · rw [List.getElem?_eq_none (by simpa using hi)] at h; cases h
theorem itok_rng {B0 : Hp} {lo : Int} {n : Nat} : ItOk K (Itr lo n) B0 (rngP lo n) := fun B H i e1 e2 _ => by
  refine ⟨fun p hp => ?_, fun hge => by rw [rngP_len] at hge; exact hge⟩
  obtain ⟨hi, rfl⟩ := rngP_get hp
  refine ⟨hi, fun x H2 hx => ?_⟩
  obtain ⟨rfl, rfl⟩ := hx
  exact ⟨B, .refl e2, rfl⟩
def rng1Q (as : List AR) (f : List P → Prop) : Prop := match as with
  | [.inl (.int j)] => -(2 ^ 62) ≤ j ∧ j < 2 ^ 62 ∧ f (rngP 0 j.toNat)
  | _ => False
def rng2Q (as : List AR) (f : List P → Prop) : Prop := match as with
  | [.inl (.int i), .inl (.int j)] => (-(2 ^ 62) ≤ i ∧ i < 2 ^ 62 ∧ -(2 ^ 62) ≤ j ∧ j < 2 ^ 62) ∧ f (rngP i (j - i).toNat)
  | _ => False
def diR1 (da : dA) : dI := fun env Q => da env fun as e => rng1Q as fun ps => Q ps e
def diR2 (da : dA) : dI := fun env Q => da env fun as e => rng2Q as fun ps => Q ps e
theorem snd_ir1 (h : SndA m K ta da) : SndI m K (iRng1 ta) (diR1 da) := ⟨fun {B H σ env G QD R} w q k => h.run w q fun as e vs B1 H1 G1 q1 w1 r1 s1 u1 => by
  change rng1Q as fun ps => QD ps e at q1
  unfold rng1Q at q1
  split at q1
  · rename_i j
    obtain ⟨v, l, rfl, z1, z2⟩ := r1
    cases (show l = [] from z2)
    cases (show v = V.int j from z1)
    exact ⟨j, rfl, q1.1, q1.2.1, k _ e B1 H1 G1 _ q1.2.2 w1 s1 u1 itok_rng⟩
  · exact q1.elim⟩
theorem snd_ir2 (h : SndA m K ta da) : SndI m K (iRng2 ta) (diR2 da) := ⟨fun {B H σ env G QD R} w q k => h.run w q fun as e vs B1 H1 G1 q1 w1 r1 s1 u1 => by
  change rng2Q as fun ps => QD ps e at q1
  unfold rng2Q at q1
  split at q1
  · rename_i i j
    obtain ⟨v, l, rfl, z1, u, l2, rfl, z2, z3⟩ := r1
    cases (show l2 = [] from z3)
    cases (show v = V.int i from z1)
    cases (show u = V.int j from z2)
    exact ⟨i, j, rfl, q1.1, k _ e B1 H1 G1 _ q1.2 w1 s1 u1 itok_rng⟩
  · exact q1.elim⟩
theorem di_rng1 {tg c0 : Expr} {e0 : Expr} (h : PA X [e0] ta → PI X tg c0 (iRng1 ta)) (ha : DA m X [e0] ta da) : DI m X tg c0 (iRng1 ta) (diR1 da) := ⟨h ha.pe, snd_ir1 ha.sd⟩
theorem di_rng2 {tg c0 : Expr} {e0 e1 : Expr} (h : PA X [e0, e1] ta → PI X tg c0 (iRng2 ta)) (ha : DA m X [e0, e1] ta da) : DI m X tg c0 (iRng2 ta) (diR2 da) := ⟨h ha.pe, snd_ir2 ha.sd⟩
end
end DL
set_option Elab.async false
set_option linter.all false
set_option maxRecDepth 100000
set_option maxHeartbeats 2000000
namespace DL
open PySem PySem.Spec L2
/-! ### what is made of tuples and of what is no object leans on no list -/
mutual
def tupO : P → Prop
  | .non => True
  | .bl _ => True
  | .int _ => True
  | .str _ => True
  | .ob _ => True
  | .ty _ => True
  | .tup ps => tupOs ps
  | .lst _ => False
  | .rol _ => False
  | .ins _ _ => False
def tupOs : List P → Prop
  | [] => True
  | p :: ps => tupO p ∧ tupOs ps
end
/-- B without F -/
def cutB (B : Hp) (F : List Addr) : Hp := fun a => if a ∈ F then none else B a
theorem cutB_in {B : Hp} {F : List Addr} {a : Addr} {o : HO} (h : B a = some o) (n : a ∉ F) : cutB B F a = some o := by
  unfold cutB; rw [if_neg n]; exact h
theorem cutB_ex {B : Hp} {F : List Addr} : Ex (cutB B F) B := fun a o h => by
  unfold cutB at h
  split at h
  · cases h
  · exact h
section
variable {K : PySem.W.Frag}
def isT : HO → Bool
  | .tup _ => true
  | .frz _ (.tup _) => true
  | _ => false
mutual
theorem tup_rp {B : Hp} {F : List Addr} (hF : ∀ a ∈ F, ∀ o, B a = some o → isT o = false) : ∀ (p : P) {v : V}, tupO p → Rp K B p v → Rp K (cutB B F) p v
  | .non, _, _, r => r
  | .bl _, _, _, r => r
  | .int _, _, _, r => r
  | .str _, _, _, r => r
  | .ob _, _, _, r => r
  | .ty _, _, _, r => r
  | .tup ps, _, h, ⟨a, vs, e, h1, h2⟩ => by
    refine ⟨a, vs, e, ?_, tups_rp hF ps h h2⟩
    rcases h1 with (h1 | ⟨o, h1⟩) | h1
    · exact .inl (.inl (cutB_in h1 fun hm => by have := hF a hm _ h1; cases this))
    · exact .inl (.inr ⟨o, cutB_in h1 fun hm => by have := hF a hm _ h1; cases this⟩)
    · exact .inr h1
  | .lst _, _, h, _ => h.elim
  | .rol _, _, h, _ => h.elim
  | .ins _ _, _, h, _ => h.elim
theorem tups_rp {B : Hp} {F : List Addr} (hF : ∀ a ∈ F, ∀ o, B a = some o → isT o = false) : ∀ (ps : List P) {vs : List V}, tupOs ps → RpA K B ps vs → RpA K (cutB B F) ps vs
  | [], _, _, h => h
  | p :: ps, _, h, ⟨v, r, e, h1, h2⟩ => ⟨v, r, e, tup_rp hF p h.1 h1, tups_rp hF ps h.2 h2⟩
end
theorem RpD.kinds {B H : Hp} : ∀ {d : D} {v : V} {F : List Addr}, RpD K B H d v F → ∀ a ∈ F, ∃ vs, H a = some (.lst vs)
  | .sh p, _, _, ⟨e1, _⟩, a, h => by rw [e1] at h; cases h
  | .ol ps, _, _, ⟨a, vs, e1, e2, e3, e4⟩, b, h => by
    rw [e1] at h
    rw [List.mem_singleton.mp h]
    exact ⟨_, e3⟩
  | .oll pss, _, _, ⟨a, as, e1, e2, e3, e4, e5⟩, b, h => by
    rw [e1] at h
    rcases List.mem_cons.mp h with h | h
    · rw [h]; exact ⟨_, e3⟩
    · obtain ⟨i, hi, e⟩ := List.getElem_of_mem h
      have h2 : pss[i]? = some (pss[i]'(by omega)) := List.getElem?_eq_getElem _
      obtain ⟨vs, g1, _⟩ := e5 i b _ (by rw [List.getElem?_eq_getElem hi, e]) h2
      exact ⟨_, g1⟩
variable {m : Bool} {pn : List Nat} {te ti tj : TE} {de di dj : dE} {dq : dO} {X : Cx} {a b c e : Expr} {pos : Pos}
def dLendT' (i : Nat) (de : dE) : dE := fun env Q => match env[i]? with
  | some (some d) => de (env.set i (some (.sh d.frz))) fun p _ => tupO p ∧ Q p env
  | _ => False
theorem snd_lendT' {i : Nat} (h : SndE true K te de) : SndE m K te (dLendT' i de) := ⟨fun {B H σ env G QD Q} w q k => by
  unfold dLendT' at q
  split at q
  · rename_i d hd
    obtain ⟨v0, _, rd⟩ := w.sl i d hd
    refine h.run (w.lent hd) q fun p e v B1 H1 G1 q1 w1 r1 s1 u1 => ?_
    obtain ⟨_, _, g⟩ := u1 rfl
    have nb : ∀ a ∈ G i, B a = none := fun a ha => w.nb i a ha
    have eB : Ex B (cutB B1 (G i)) := fun a o ho => cutB_in (g.b a o ((frz_gr w.ex nb).1 a o ho)) fun hm => by rw [nb a hm] at ho; cases ho
    have g2 : Gr B H (cutB B1 (G i)) H1 := ⟨eB, g.h, cutB_ex.trans g.w, fun a o ho hn => by
      unfold cutB
      split
      · rfl
      · rename_i hm
        refine g.n a o ho ?_
        unfold frzB
        rw [if_neg hm]
        exact hn⟩
    refine k p env v _ H1 G q1.2 (w.gr g2) (tup_rp (fun a ha o ho => ?_) p q1.1 r1) g2.stp (.gr g2)
    obtain ⟨vs, hvs⟩ := rd.kinds a ha
    have := g.w a o ho
    rw [g.h a _ hvs] at this
    cases this
    rfl
  · exact q.elim⟩
theorem de_lendT (i : Nat) (h : DE true X a te de) : DE m X a te (dLendT' i de) := ⟨h.pe, snd_lendT' h.sd⟩

/-! ### comprehensions, as the text has them -/
structure DTs (m : Bool) (X : Cx) (ifs : List Expr) (tt : TT) (dt : dT) : Prop where
  pe : PTs X ifs tt
  sd : SndT m X.K tt dt
def dYes : dT := fun env Q => Q true env
theorem dts_nil : DTs m X [] tYes dYes := ⟨pts_nil, ⟨fun {B H σ env G QD Q} w q k => k true env B H G q w .refl (.gr (.refl w.ex))⟩⟩
theorem dts_one {tt : TT} {dt : dT} (h : DT m X c tt dt) : DTs m X [c] tt dt := ⟨pts_one h.pe, h.sd⟩
variable {elt tg iter : Expr} {ifs : List Expr} {scope : Scope} {own : List (Str × Nat)} {wi : TI} {g : TG} {tt : TT} {dw : dI} {dg : dG} {dt : dT}
abbrev Blk (X : Cx) (scope : Scope) (s : Shared) (H : Hp) (C : Addr) (cl : List (Str × Addr)) (fp : List Addr) : Cx := X.blk s H scope (compEnvC scope cl C X.env) fp
abbrev z0 : Shared := {}
abbrev z1 : Hp := fun _ => none
/-- what a block's terms may name of the block -/
abbrev BF (α : Type) := Shared → Hp → Addr → List (Str × Addr) → List Addr → α
variable {g' : BF TG} {dg' : BF dG} {tt' : BF TT} {dt' : BF dT} {te' : BF TE} {de' : BF dE} {dq' : BF dO}
theorem do_lc {n : Nat} (hc : X.calm = true) (hN : X.N.Nodup) (hi : DI false X tg iter wi dw) (ok : BlkOk X.N X.env.scope scope own)
    (hg : ∀ s H C cl fp, DG (others n (own.map (·.2))) (Blk X scope s H C cl fp) tg (g' s H C cl fp) (dg' s H C cl fp)) (ht : ∀ s H C cl fp, DTs false (Blk X scope s H C cl fp) ifs (tt' s H C cl fp) (dt' s H C cl fp)) (he : ∀ s H C cl fp, DE false (Blk X scope s H C cl fp) elt (te' s H C cl fp) (de' s H C cl fp))
    (eg : ∀ s H C cl fp, g' s H C cl fp = g' z0 z1 0 [] [] := by intros; rfl) (et : ∀ s H C cl fp, tt' s H C cl fp = tt' z0 z1 0 [] [] := by intros; rfl) (ee : ∀ s H C cl fp, te' s H C cl fp = te' z0 z1 0 [] [] := by intros; rfl)
    (hs : ∀ x, foldedSetIterable iter X.env x = pure x := by intro _; rfl) :
    DO false X (.ListComp elt [⟨tg, iter, ifs, 0⟩] scope pos) (tLc wi (g' z0 z1 0 [] []) (tt' z0 z1 0 [] []) (te' z0 z1 0 [] []) (own.map (·.2))) (dLc dw (dg' z0 z1 0 [] []) (dt' z0 z1 0 [] []) (de' z0 z1 0 [] []) n (own.map (·.2))) :=
  ⟨pe_lc hc hN hi.pe ok (fun s H C cl fp => by rw [← eg s H C cl fp]; exact (hg s H C cl fp).pe) (fun s H C cl fp => by rw [← et s H C cl fp]; exact (ht s H C cl fp).pe) (fun s H C cl fp => by rw [← ee s H C cl fp]; exact (he s H C cl fp).pe) hs,
   snd_lc hi.sd (hg z0 z1 0 [] []).sd (ht z0 z1 0 [] []).sd (he z0 z1 0 [] []).sd⟩
theorem do_lcP {n : Nat} (hc : X.calm = true) (hN : X.N.Nodup) (hi : DI m X tg iter wi dw) (ok : BlkOk X.N X.env.scope scope own)
    (hg : ∀ s H C cl fp, DG (others n (own.map (·.2))) (Blk X scope s H C cl fp) tg (g' s H C cl fp) (dg' s H C cl fp)) (ht : ∀ s H C cl fp, DTs true (Blk X scope s H C cl fp) ifs (tt' s H C cl fp) (dt' s H C cl fp)) (he : ∀ s H C cl fp, DE true (Blk X scope s H C cl fp) elt (te' s H C cl fp) (de' s H C cl fp))
    (eg : ∀ s H C cl fp, g' s H C cl fp = g' z0 z1 0 [] [] := by intros; rfl) (et : ∀ s H C cl fp, tt' s H C cl fp = tt' z0 z1 0 [] [] := by intros; rfl) (ee : ∀ s H C cl fp, te' s H C cl fp = te' z0 z1 0 [] [] := by intros; rfl)
    (hs : ∀ x, foldedSetIterable iter X.env x = pure x := by intro _; rfl) :
    DO m X (.ListComp elt [⟨tg, iter, ifs, 0⟩] scope pos) (tLc wi (g' z0 z1 0 [] []) (tt' z0 z1 0 [] []) (te' z0 z1 0 [] []) (own.map (·.2))) (dLcP dw (dg' z0 z1 0 [] []) (dt' z0 z1 0 [] []) (de' z0 z1 0 [] []) n (own.map (·.2))) :=
  ⟨pe_lc hc hN hi.pe ok (fun s H C cl fp => by rw [← eg s H C cl fp]; exact (hg s H C cl fp).pe) (fun s H C cl fp => by rw [← et s H C cl fp]; exact (ht s H C cl fp).pe) (fun s H C cl fp => by rw [← ee s H C cl fp]; exact (he s H C cl fp).pe) hs,
   snd_lcP hi.sd (hg z0 z1 0 [] []).sd (ht z0 z1 0 [] []).sd (he z0 z1 0 [] []).sd⟩
variable {y : Str} {py spos : Pos}
theorem ds_setLc {i n : Nat} (hc : X.calm = true) (hN : X.N.Nodup) (hy : X.N[i]? = some y) (hyl : X.env.scope.names.lookup y = some .local)
    (hsw : swapsWith (.ListComp elt [⟨tg, iter, ifs, 0⟩] scope pos) (some (.Name y py)) spos.line X.env = pure true) (hp : i ∉ pn) (hi : DI false X tg iter wi dw) (ok : BlkOk X.N X.env.scope scope own)
    (hg : ∀ s H C cl fp, DG (others n (own.map (·.2))) (Blk X scope s H C cl fp) tg (g' s H C cl fp) (dg' s H C cl fp)) (ht : ∀ s H C cl fp, DTs false (Blk X scope s H C cl fp) ifs (tt' s H C cl fp) (dt' s H C cl fp)) (he : ∀ s H C cl fp, DE false (Blk X scope s H C cl fp) elt (te' s H C cl fp) (de' s H C cl fp))
    (eg : ∀ s H C cl fp, g' s H C cl fp = g' z0 z1 0 [] [] := by intros; rfl) (et : ∀ s H C cl fp, tt' s H C cl fp = tt' z0 z1 0 [] [] := by intros; rfl) (ee : ∀ s H C cl fp, te' s H C cl fp = te' z0 z1 0 [] [] := by intros; rfl)
    (hs : ∀ x, foldedSetIterable iter X.env x = pure x := by intro _; rfl) :
    DS pn X (.Assign [.Name y py] (.ListComp elt [⟨tg, iter, ifs, 0⟩] scope pos) spos) (tAsg (tLc wi (g' z0 z1 0 [] []) (tt' z0 z1 0 [] []) (te' z0 z1 0 [] []) (own.map (·.2))) (gName i)) (dPut i (dLc dw (dg' z0 z1 0 [] []) (dt' z0 z1 0 [] []) (de' z0 z1 0 [] []) n (own.map (·.2)))) :=
  ⟨ps_setLc hc hN hy hyl hsw hi.pe ok (fun s H C cl fp => by rw [← eg s H C cl fp]; exact (hg s H C cl fp).pe) (fun s H C cl fp => by rw [← et s H C cl fp]; exact (ht s H C cl fp).pe) (fun s H C cl fp => by rw [← ee s H C cl fp]; exact (he s H C cl fp).pe) hs,
   snd_put hp (snd_lc hi.sd (hg z0 z1 0 [] []).sd (ht z0 z1 0 [] []).sd (he z0 z1 0 [] []).sd)⟩
theorem ds_setLcP {i n : Nat} (hc : X.calm = true) (hN : X.N.Nodup) (hy : X.N[i]? = some y) (hyl : X.env.scope.names.lookup y = some .local)
    (hsw : swapsWith (.ListComp elt [⟨tg, iter, ifs, 0⟩] scope pos) (some (.Name y py)) spos.line X.env = pure true) (hp : i ∉ pn) (hi : DI false X tg iter wi dw) (ok : BlkOk X.N X.env.scope scope own)
    (hg : ∀ s H C cl fp, DG (others n (own.map (·.2))) (Blk X scope s H C cl fp) tg (g' s H C cl fp) (dg' s H C cl fp)) (ht : ∀ s H C cl fp, DTs true (Blk X scope s H C cl fp) ifs (tt' s H C cl fp) (dt' s H C cl fp)) (he : ∀ s H C cl fp, DE true (Blk X scope s H C cl fp) elt (te' s H C cl fp) (de' s H C cl fp))
    (eg : ∀ s H C cl fp, g' s H C cl fp = g' z0 z1 0 [] [] := by intros; rfl) (et : ∀ s H C cl fp, tt' s H C cl fp = tt' z0 z1 0 [] [] := by intros; rfl) (ee : ∀ s H C cl fp, te' s H C cl fp = te' z0 z1 0 [] [] := by intros; rfl)
    (hs : ∀ x, foldedSetIterable iter X.env x = pure x := by intro _; rfl) :
    DS pn X (.Assign [.Name y py] (.ListComp elt [⟨tg, iter, ifs, 0⟩] scope pos) spos) (tAsg (tLc wi (g' z0 z1 0 [] []) (tt' z0 z1 0 [] []) (te' z0 z1 0 [] []) (own.map (·.2))) (gName i)) (dPut i (dLcP dw (dg' z0 z1 0 [] []) (dt' z0 z1 0 [] []) (de' z0 z1 0 [] []) n (own.map (·.2)))) :=
  ⟨ps_setLc hc hN hy hyl hsw hi.pe ok (fun s H C cl fp => by rw [← eg s H C cl fp]; exact (hg s H C cl fp).pe) (fun s H C cl fp => by rw [← et s H C cl fp]; exact (ht s H C cl fp).pe) (fun s H C cl fp => by rw [← ee s H C cl fp]; exact (he s H C cl fp).pe) hs,
   snd_put hp (snd_lcP hi.sd (hg z0 z1 0 [] []).sd (ht z0 z1 0 [] []).sd (he z0 z1 0 [] []).sd)⟩
/-! ### a list of own lists -/
structure AccO (K : PySem.W.Frag) (B H : Hp) (G : Fp) (l : Addr) (as : List Addr) (pss : List (List P)) : Prop where
  at_ : H l = some (.lst (as.map V.ref))
  len : as.length = pss.length
  its : ∀ (i : Nat) (b : Addr) (ps : List P), as[i]? = some b → pss[i]? = some ps → ∃ vs, H b = some (.lst vs) ∧ RpA K B ps vs
  nd : (l :: as).Nodup
  nb : ∀ a ∈ l :: as, B a = none
  ap : ∀ a ∈ l :: as, ∀ i, a ∉ G i
theorem AccO.there {B H : Hp} {G : Fp} {l : Addr} {as : List Addr} {pss : List (List P)} (x : AccO K B H G l as pss) : ∀ a ∈ l :: as, ∃ o, H a = some o := fun a h => by
  rcases List.mem_cons.mp h with h | h
  · rw [h]; exact ⟨_, x.at_⟩
  · obtain ⟨i, hi, e⟩ := List.getElem_of_mem h
    have h2 : pss[i]? = some (pss[i]'(by have := x.len; omega)) := List.getElem?_eq_getElem _
    obtain ⟨vs, g1, _⟩ := x.its i a _ (by rw [List.getElem?_eq_getElem hi, e]) h2
    exact ⟨_, g1⟩
theorem AccO.stp {B H B' H' : Hp} {G G' : Fp} {l : Addr} {as : List Addr} {pss : List (List P)} (a : AccO K B H G l as pss) (s : Stp B H G B' H' G') : AccO K B' H' G' l as pss where
  at_ := s.kp l _ a.at_ (a.ap l List.mem_cons_self)
  len := a.len
  its := fun i b ps h1 h2 => by
    obtain ⟨vs, g1, g2⟩ := a.its i b ps h1 h2
    exact ⟨vs, s.kp b _ g1 (a.ap b (List.mem_cons_of_mem _ (List.mem_of_getElem? h1))), RpA.mono s.ex ps g2⟩
  nd := a.nd
  nb := fun x hx => by
    obtain ⟨o, ho⟩ := a.there x hx
    exact s.bs x o ho (a.nb x hx) (a.ap x hx)
  ap := fun x hx i hi => by
    obtain ⟨o, ho⟩ := a.there x hx
    rcases s.fp i x hi with ⟨j, hj⟩ | hn
    · exact a.ap x hx j hj
    · rw [ho] at hn; cases hn
theorem AccO.gsub {B H : Hp} {G G' : Fp} {l : Addr} {as : List Addr} {pss : List (List P)} (a : AccO K B H G l as pss) (h : ∀ i x, x ∈ G' i → ∃ j, x ∈ G j) : AccO K B H G' l as pss :=
  ⟨a.at_, a.len, a.its, a.nd, a.nb, fun x hx i hi => by
    obtain ⟨j, hj⟩ := h i x hi
    exact a.ap x hx j hj⟩
theorem AccO.wd {B H : Hp} {σ : L2.St} {env : Env} {G : Fp} {l : Addr} {as : List Addr} {pss : List (List P)} {u : HO} (a : AccO K B H G l as pss) (w : Wd K B H σ env G) : Wd K B (upd H l u) σ env G where
  ex := fun x o h => by rw [upd_ne (ne_of_none h (a.nb l List.mem_cons_self))]; exact w.ex x o h
  sl := fun i d e => by
    obtain ⟨v, h1, h2⟩ := w.sl i d e
    refine ⟨v, h1, RpD.mono (Ex.refl B) h2 fun x hx o ho => ?_⟩
    rw [upd_ne fun q => a.ap l List.mem_cons_self i (by rw [← q]; exact hx)]
    exact ho
  no := w.no
  nd := w.nd
  dj := w.dj
  nb := w.nb
  len := w.len
def ownL : D → Option (List P)
  | .ol ps => some ps
  | _ => none
def dLcO (di : dI) (dg : dG) (dq : dO) (n : Nat) (vs : List Nat) : dO := fun env Q => di env fun ps env1 => lenE n env1 = true ∧ ∃ Inv : Nat → List (List P) → Env → Prop, Inv 0 [] env1 ∧
  (∀ i p acc e, ps[i]? = some p → Inv i acc e → dg p (wipeE e vs) fun e2 => dq e2 fun y e4 => acc.length < sizeLine ∧ ∃ qs, ownL y = some qs ∧ Inv (i + 1) (acc ++ [qs]) (wipeE e4 vs)) ∧
  ∀ acc e, Inv ps.length acc e → Q (.oll acc) e
theorem snd_lcO {n : Nat} {vs : List Nat} (hi : SndI m K wi dw) (hg : SndG (others n vs) K g dg) (he : SndO false K te dq) : SndO false K (tLc wi g tYes te vs) (dLcO dw dg dq n vs) := ⟨fun {B H σ env G QD Q} w q k => by
  refine hi.run w q fun ps env1 B1 H1 G1 J q1 w1 s1 _ hJ => ?_
  obtain ⟨hn, Inv, i0, turn, done⟩ := q1
  have hσ : σ.length ≤ n := by rw [← w1.len]; exact lenE_le hn
  intro l hl
  let Wx : Nat → Hp → Prop := fun i H' => ∃ acc as env' B' G', Inv i acc env' ∧ Wd K B' H' σ env' G' ∧ Stp B1 H1 G1 B' H' G' ∧ AccO K B' H' G' l as acc ∧ (∀ a ∈ as, (∃ j, a ∈ G1 j) ∨ H1 a = none)
  refine ⟨fun i mm H' => mm = ps.length - i ∧ i ≤ ps.length ∧ Wx i H', ⟨_, rfl, Nat.zero_le _, [], [], env1, B1, G1, i0, ?_, stp_new hl, ⟨upd_same, rfl, fun i b qs h1 h2 => by simp at h1, by simp, fun a ha => by rw [List.mem_singleton.mp ha]; exact w1.ex.back hl, fun a ha i hi => by rw [List.mem_singleton.mp ha] at hi; exact w1.off hl i hi⟩, fun a ha => absurd ha List.not_mem_nil⟩, ?_⟩
  · exact w1.gr ⟨Ex.refl _, fun a u k => by rw [upd_ne (ne_of_none k hl)]; exact k, fun a u k => by rw [upd_ne (ne_of_none (w1.ex a u k) hl)]; exact w1.ex a u k, fun a u k n => n⟩
  rintro i mm H' ⟨rfl, hle, acc, as, env', B', G', hI, w', s', a', nw⟩
  obtain ⟨hgo, hst⟩ := hJ B' H' i s'.ex w'.ex hle
  by_cases hlt : i < ps.length
  · obtain ⟨go, yl⟩ := hgo ps[i] (List.getElem?_eq_getElem hlt)
    refine .inr ⟨go, Wx (i + 1), fun H2 h2 => ⟨ps.length - (i + 1), by omega, rfl, hlt, h2⟩, fun x H2 y => ?_⟩
    obtain ⟨B2, g2, r2⟩ := yl x H2 y
    have w2 := (w'.gr g2).wipe vs
    have s2 := (s'.trans (g2.stp (G := G'))).wipeG (vs := vs)
    have a2 := a'.stp (G' := wipeG G' vs) ((g2.stp (G := G')).wipeG (vs := vs))
    refine hg.run w2 r2 (turn i ps[i] acc env' (List.getElem?_eq_getElem hlt) hI) fun env3 σ3 G3 q3 w3 g3 p3 => ?_
    have hw3 := wipe_pin p3 hσ
    have hl3 : σ3.length = σ.length := by rw [p3.1, L2.wipe_length]
    refine ⟨hw3, ?_⟩
    have s3 := s2.trans (stp_g g3)
    have a3 := a2.stp (stp_g g3)
    show if true = true then (te σ3 H2 fun y H4 => ∃ acc, H4 l = some (HO.lst acc) ∧ acc.length < sizeLine ∧ Wx (i + 1) (upd H4 l (HO.lst (acc ++ [y])))) else Wx (i + 1) H2
    rw [if_pos rfl]
    refine he.run w3 q3 fun d5 env5 v5 F5 B5 H5 G5 q5 w5 o5 s5 _ => ?_
    obtain ⟨hlen, qs, hq, q5⟩ := q5
    have st5 := s3.trans s5
    have a5 := a3.stp s5
    have hd : d5 = .ol qs := by
      cases d5 with
      | ol zs => cases hq; rfl
      | _ => cases hq
    subst hd
    obtain ⟨b, ws, rfl, rfl, hb, rb⟩ := o5.rp
    have hbm : b ∉ l :: as := fun hm => by
      rcases o5.nw b List.mem_cons_self with ⟨j, hj⟩ | hx
      · exact a3.ap b hm j hj
      · obtain ⟨o, ho⟩ := a3.there b hm
        rw [hx] at ho; cases ho
    have hbl : b ≠ l := fun q => hbm (by rw [q]; exact List.mem_cons_self)
    refine ⟨as.map V.ref, a5.at_, by rw [List.length_map, a5.len]; exact hlen, acc ++ [qs], as ++ [b], wipeE env5 vs, B5, wipeG G5 vs, q5, ?_, (st5.wipeG).grow hl, ⟨?_, ?_, ?_, ?_, ?_, ?_⟩, ?_⟩
    · exact (a5.gsub fun i x hx => ⟨i, wipeG_sub hx⟩).wd (w5.unwipe hw3 hl3)
    · rw [upd_same, List.map_append]; rfl
    · rw [List.length_append, List.length_append, a5.len]; rfl
    · intro j c zs h1 h2
      by_cases hj : j < as.length
      · rw [List.getElem?_append_left hj] at h1
        rw [List.getElem?_append_left (by rw [← a5.len]; exact hj)] at h2
        obtain ⟨us, g1, g2⟩ := a5.its j c zs h1 h2
        refine ⟨us, ?_, g2⟩
        rw [upd_ne fun q => (List.nodup_cons.mp a5.nd).1 (by rw [← q]; exact List.mem_of_getElem? h1)]
        exact g1
      · have hj2 : j = as.length := by
          have := (List.getElem?_eq_some_iff.mp h1).1
          rw [List.length_append, List.length_singleton] at this
          omega
        subst hj2
        rw [List.getElem?_append_right (Nat.le_refl _), Nat.sub_self] at h1
        rw [a5.len, List.getElem?_append_right (Nat.le_refl _), Nat.sub_self] at h2
        cases h1
        cases h2
        exact ⟨ws, by rw [upd_ne hbl]; exact hb, rb⟩
    · rw [← List.cons_append]
      refine List.nodup_append.mpr ⟨a5.nd, by simp, fun x hx y hy => ?_⟩
      rw [List.mem_singleton.mp hy]
      exact fun q => hbm (by rw [← q]; exact hx)
    · intro x hx
      rw [← List.cons_append] at hx
      rcases List.mem_append.mp hx with hx | hx
      · exact a5.nb x hx
      · rw [List.mem_singleton.mp hx]; exact o5.nb b List.mem_cons_self
    · intro x hx j hj
      rw [← List.cons_append] at hx
      rcases List.mem_append.mp hx with hx | hx
      · exact a5.ap x hx j (wipeG_sub hj)
      · rw [List.mem_singleton.mp hx] at hj; exact o5.ap b List.mem_cons_self j (wipeG_sub hj)
    · intro x hx
      rcases List.mem_append.mp hx with hx | hx
      · exact nw x hx
      · rw [List.mem_singleton.mp hx]
        rcases o5.nw b List.mem_cons_self with ⟨j, hj⟩ | hz
        · exact s3.fp j b hj
        · by_cases hgx : ∃ j, b ∈ G1 j
          · exact .inl hgx
          · right
            cases hh : H1 b with
            | none => rfl
            | some o =>
              have := s3.kp b o hh fun j hj => hgx ⟨j, hj⟩
              rw [hz] at this; cases this
  · have e : i = ps.length := by omega
    subst e
    refine .inl ⟨hst (Nat.le_refl _), k (.oll acc) env' (.ref l) (l :: as) B' H' G' (done acc env' hI) w' ⟨⟨l, as, rfl, rfl, a'.at_, a'.len, a'.its⟩, a'.nd, a'.nb, fun a ha => ?_, a'.ap⟩ (s1.trans s') .off⟩
    rcases List.mem_cons.mp ha with ha | ha
    · rw [ha]; exact .inr (s1.back hl)
    · rcases nw a ha with ⟨j, hj⟩ | hx
      · exact s1.fp j a hj
      · exact .inr (s1.back hx)⟩
theorem do_lcO {n : Nat} (hc : X.calm = true) (hN : X.N.Nodup) (hi : DI false X tg iter wi dw) (ok : BlkOk X.N X.env.scope scope own)
    (hg : ∀ s H C cl fp, DG (others n (own.map (·.2))) (Blk X scope s H C cl fp) tg (g' s H C cl fp) (dg' s H C cl fp)) (he : ∀ s H C cl fp, DO false (Blk X scope s H C cl fp) elt (te' s H C cl fp) (dq' s H C cl fp))
    (eg : ∀ s H C cl fp, g' s H C cl fp = g' z0 z1 0 [] [] := by intros; rfl) (ee : ∀ s H C cl fp, te' s H C cl fp = te' z0 z1 0 [] [] := by intros; rfl)
    (hs : ∀ x, foldedSetIterable iter X.env x = pure x := by intro _; rfl) :
    DO false X (.ListComp elt [⟨tg, iter, [], 0⟩] scope pos) (tLc wi (g' z0 z1 0 [] []) tYes (te' z0 z1 0 [] []) (own.map (·.2))) (dLcO dw (dg' z0 z1 0 [] []) (dq' z0 z1 0 [] []) n (own.map (·.2))) :=
  ⟨pe_lc hc hN hi.pe ok (fun s H C cl fp => by rw [← eg s H C cl fp]; exact (hg s H C cl fp).pe) (fun s H C cl fp => pts_nil) (fun s H C cl fp => by rw [← ee s H C cl fp]; exact (he s H C cl fp).pe) hs,
   snd_lcO hi.sd (hg z0 z1 0 [] []).sd (he z0 z1 0 [] []).sd⟩
theorem ds_setLcO {i n : Nat} (hc : X.calm = true) (hN : X.N.Nodup) (hy : X.N[i]? = some y) (hyl : X.env.scope.names.lookup y = some .local)
    (hsw : swapsWith (.ListComp elt [⟨tg, iter, [], 0⟩] scope pos) (some (.Name y py)) spos.line X.env = pure true) (hp : i ∉ pn) (hi : DI false X tg iter wi dw) (ok : BlkOk X.N X.env.scope scope own)
    (hg : ∀ s H C cl fp, DG (others n (own.map (·.2))) (Blk X scope s H C cl fp) tg (g' s H C cl fp) (dg' s H C cl fp)) (he : ∀ s H C cl fp, DO false (Blk X scope s H C cl fp) elt (te' s H C cl fp) (dq' s H C cl fp))
    (eg : ∀ s H C cl fp, g' s H C cl fp = g' z0 z1 0 [] [] := by intros; rfl) (ee : ∀ s H C cl fp, te' s H C cl fp = te' z0 z1 0 [] [] := by intros; rfl)
    (hs : ∀ x, foldedSetIterable iter X.env x = pure x := by intro _; rfl) :
    DS pn X (.Assign [.Name y py] (.ListComp elt [⟨tg, iter, [], 0⟩] scope pos) spos) (tAsg (tLc wi (g' z0 z1 0 [] []) tYes (te' z0 z1 0 [] []) (own.map (·.2))) (gName i)) (dPut i (dLcO dw (dg' z0 z1 0 [] []) (dq' z0 z1 0 [] []) n (own.map (·.2)))) :=
  ⟨ps_setLc hc hN hy hyl hsw hi.pe ok (fun s H C cl fp => by rw [← eg s H C cl fp]; exact (hg s H C cl fp).pe) (fun s H C cl fp => pts_nil) (fun s H C cl fp => by rw [← ee s H C cl fp]; exact (he s H C cl fp).pe) hs,
   snd_put hp (snd_lcO hi.sd (hg z0 z1 0 [] []).sd (he z0 z1 0 [] []).sd)⟩
/-! ### i[j][k] = e, of a list of own lists -/
def ixQQ (q : P) (o : Option (Option D)) (f : Int → List (List P) → Prop) : Prop := match q, o with
  | .int k, some (some (.oll pss)) => f k pss
  | _, _ => False
theorem ixQQ_is {q : P} {o : Option (Option D)} {f : Int → List (List P) → Prop} (h : ixQQ q o f) : ∃ k pss, q = .int k ∧ o = some (some (.oll pss)) ∧ f k pss := by
  unfold ixQQ at h
  split at h
  · exact ⟨_, _, rfl, rfl, h⟩
  · exact h.elim
def isInt : P → (Int → Prop) → Prop
  | .int i, f => f i
  | _, _ => False
theorem isInt_is {p : P} {f : Int → Prop} (h : isInt p f) : ∃ i, p = .int i ∧ f i := by
  unfold isInt at h
  split at h
  · exact ⟨_, rfl, h⟩
  · exact h.elim
def dSetII (i : Nat) (dj dk de : dE) : dS := fun Dd env => de env fun p e1 => match e1[i]? with
  | some (some (.oll _)) => dj e1 fun q1 e2 => ixQQ q1 e2[i]? fun k1 pss => ∃ j1 ps, ixN pss.length k1 = some j1 ∧ pss[j1]? = some ps ∧ dk e2 fun q2 e3 => isInt q2 fun k2 => e3[i]? = e2[i]? ∧ ∃ j2, ixN ps.length k2 = some j2 ∧ Dd.nx (e3.set i (some (.oll (pss.set j1 (ps.set j2 p)))))
  | _ => False
theorem snd_setII {i : Nat} (hj : SndE true K tj dj) (hk : SndE true K ti di) (h : SndE m K te de) : SndS pn K (tAsg te (gSub (tOp (rIxL K) (tVar i) tj) ti rSetL)) (dSetII i dj di de) := ⟨fun {B H σ env G Dd D} w q n r k1 k2 => by
  refine h.run w q fun p e1 v2 B1 H1 G1 q1 w1 r1 s1 _ => ?_
  change (match e1[i]? with | some (some (.oll _)) => dj e1 _ | _ => False) at q1
  split at q1
  · rename_i pss0 hd
    obtain ⟨v, h1, a0, as0, hG, rfl, h4, h5, h6⟩ := w1.sl i _ hd
    refine ⟨.ref a0, h1, ?_⟩
    refine hj.run w1 q1 fun qq e2 v3 B2 H2 G2 q2 w2 r2 s2 u2 => ?_
    obtain ⟨rfl, rfl, g2⟩ := u2 rfl
    obtain ⟨kk, pss, rfl, hd2, j1, ps, x1, x2, q2⟩ := ixQQ_is q2
    rw [hd] at hd2
    cases hd2
    obtain ⟨v4, z1, a1, as, z2, z3, z4, z5, z6⟩ := w2.sl i _ hd
    rw [h1] at z1
    cases z1
    cases z3
    rw [hG] at z2
    cases z2
    have hj1 : j1 < as0.length := by rw [h5]; exact (List.getElem?_eq_some_iff.mp x2).1
    have ha1 : as0[j1]? = some as0[j1] := List.getElem?_eq_getElem hj1
    refine ⟨a0, as0.map V.ref, kk, .ref as0[j1], rfl, r2, SqL.of z4, ?_, ?_⟩
    · unfold atI
      rw [List.length_map, h5, x1]
      show (as0.map V.ref)[j1]? = _
      rw [List.getElem?_map, ha1]
      rfl
    refine hk.run w2 q2 fun q3 e3 v5 B3 H3 G3 q4 w3 r3 s3 u3 => ?_
    obtain ⟨rfl, rfl, g3⟩ := u3 rfl
    obtain ⟨k2', rfl, _, j2, y1, q4⟩ := isInt_is q4
    obtain ⟨v6, t1, a3, as3, t2, t3, t4, t5, t6⟩ := w3.sl i _ hd
    rw [h1] at t1
    cases t1
    cases t3
    rw [hG] at t2
    cases t2
    obtain ⟨us, f1, f2⟩ := t6 j1 _ ps ha1 x2
    refine ⟨as0[j1], us, k2', j2, rfl, r3, f1, by rw [f2.length]; exact y1, ?_⟩
    have nd : (a0 :: as0).Nodup := by have := w3.nd i; rw [hG] at this; exact this
    have hm : as0[j1] ∈ as0 := List.getElem_mem hj1
    have rp' : Rp K B3 p v2 := Rp.mono (s2.ex.trans s3.ex) p r1
    obtain ⟨w4, s4⟩ := w3.chg (d' := .oll (pss0.set j1 (ps.set j2 p))) (o := .lst (us.set j2 v2)) (l := as0[j1]) hd h1 (by rw [hG]; exact List.mem_cons_of_mem _ hm) ⟨a0, as0, hG, rfl, by
        rw [upd_ne fun q => (List.nodup_cons.mp nd).1 (by rw [q]; exact hm)]; exact t4, by rw [List.length_set]; exact t5, fun ii b qs g1 g2 => by
        by_cases hii : j1 = ii
        · subst hii
          rw [ha1] at g1
          cases g1
          rw [List.getElem?_set_self (by rw [← t5]; exact hj1)] at g2
          cases g2
          exact ⟨_, upd_same, f2.set rp'⟩
        · rw [List.getElem?_set_ne hii] at g2
          obtain ⟨ws, c1, c2⟩ := t6 ii b qs g1 g2
          refine ⟨ws, ?_, c2⟩
          rw [upd_ne fun q => ?_]
          · exact c1
          · have hlt := (List.getElem?_eq_some_iff.mp g1)
            obtain ⟨hl, he⟩ := hlt
            have : as0[ii] = as0[j1] := by rw [he, q]
            exact hii ((List.getElem_inj (List.nodup_cons.mp nd).2).mp this).symm⟩
    exact n _ σ B3 _ G3 q4 w4 (((s1.trans s2).trans s3).trans s4) .refl
  · exact q1.elim⟩
theorem ds_setII {i : Nat} {tg : Expr} (hg : PE X b ti → PE X c tj → PG X tg (gSub (tOp (rIxL X.K) (tVar i) tj) ti rSetL)) (hj : DE true X c tj dj) (hk : DE true X b ti di) (he : DE false X e te de)
    (hs : swapsWithSole [tg] e pos.line X.env = pure false := by rfl) (hw : swappedStores [tg] e X.env = pure none := by rfl) (h1 : (assignEach [tg] X.env).map (·.2) = [assign tg X.env] := by rfl) :
    DS pn X (.Assign [tg] e pos) (tAsg te (gSub (tOp (rIxL X.K) (tVar i) tj) ti rSetL)) (dSetII i dj di de) := ⟨ps_asg he.pe (hg hk.pe hj.pe) hs hw h1, snd_setII hj.sd hk.sd he.sd⟩
/-! ### [x] * n, where [x] is written -/
theorem oo_rep : OpO K rRep dRep := ⟨fun {B H x y p q QD Q} e rx ry r k => by
  cases p with
  | lst xs =>
    cases q with
    | int nn =>
      obtain ⟨a, vs, rfl, h1, h2⟩ := rx
      obtain ⟨r1, r2, r3, r4⟩ := r
      refine ⟨a, nn, vs, rfl, ry, e a _ h1, r1, r2, by rw [h2.length]; exact r3, fun l hl => ?_⟩
      have g : Gr B H B (upd H l (.lst (List.replicate nn.toNat vs).flatten)) := ⟨Ex.refl _, fun a u k => by rw [upd_ne (ne_of_none k hl)]; exact k, fun a u k => by rw [upd_ne (ne_of_none (e a u k) hl)]; exact e a u k, fun a u k n => n⟩
      exact k _ B _ _ [l] r4 ⟨l, _, rfl, rfl, upd_same, rep_flat h2 _⟩ (by simp) (fun a ha => by rw [List.mem_singleton.mp ha]; exact e.back hl) (fun a ha => by rw [List.mem_singleton.mp ha]; exact hl) g
    | _ => exact r.elim
  | _ => exact r.elim⟩
/-! ### slices -/
def cutP (ps : List P) (lo hi : Option Int) : List P := (ps.drop (HT.sIx ps.length 0 lo)).take (HT.sIx ps.length ps.length hi - HT.sIx ps.length 0 lo)
theorem cut_rp {B : Hp} {ps : List P} {vs : List V} (h : RpA K B ps vs) (lo hi : Option Int) : RpA K B (cutP ps lo hi) (cutV vs lo hi) := by
  unfold cutP cutV
  rw [h.length]
  exact (h.drop _).take _
abbrev dPO := Env → (Option Int → Env → Prop) → Prop
structure SndP (m : Bool) (K : PySem.W.Frag) (to : TO) (dp : dPO) : Prop where
  run : ∀ {B H : Hp} {σ : L2.St} {env : Env} {G : Fp} {QD : Option Int → Env → Prop} {Q : Option Int → Hp → Prop}, Wd K B H σ env G → dp env QD →
    (∀ o env' B' H' G', QD o env' → Wd K B' H' σ env' G' → Stp B H G B' H' G' → Pure m env env' G G' B H B' H' → Q o H') → to σ H Q
structure DPO (m : Bool) (X : Cx) (e : Option Expr) (to : TO) (dp : dPO) : Prop where
  pe : PO X e to
  sd : SndP m X.K to dp
def dNoPart : dPO := fun env Q => Q none env
def dPart (de : dE) : dPO := fun env Q => de env fun p e => isInt p fun i => Q (some i) e
theorem dpo_none : DPO m X none tNoPart dNoPart := ⟨po_none, ⟨fun {B H σ env G QD Q} w q k => k none env B H G q w .refl (.gr (.refl w.ex))⟩⟩
theorem dpo_some (h : DE m X e te de) : DPO m X (some e) (tPart te) (dPart de) := ⟨po_some h.pe, ⟨fun w q k => h.sd.run w q fun p e v B H G q1 w1 r1 s1 u1 => by
  obtain ⟨i, rfl, q1⟩ := isInt_is q1
  exact ⟨i, r1, k _ e B H G q1 w1 s1 u1⟩⟩⟩
def dSlL (de : dE) (lo hi : dPO) : dO := fun env Q => de env fun p e => lo e fun l e1 => hi e1 fun u e2 => match plst p with
  | some ps => Q (.ol (cutP ps l u)) e2
  | none => False
theorem snd_slL {tl th : TO} {lo hi : dPO} (h : SndE m K te de) (hl : SndP m K tl lo) (hu : SndP m K th hi) : SndO m K (tSl (rSlL K) te tl th) (dSlL de lo hi) := ⟨fun {B H σ env G QD Q} w q k =>
  h.run w q fun p e v B1 H1 G1 q1 w1 r1 s1 u1 => hl.run w1 q1 fun l e1 B2 H2 G2 q2 w2 s2 u2 => hu.run w2 q2 fun u e2 B3 H3 G3 q3 w3 s3 u3 => by
    change (match plst p with | some ps => QD (.ol (cutP ps l u)) e2 | none => False) at q3
    split at q3
    · rename_i ps hp
      obtain ⟨a, vs, rfl, h2, h3⟩ := plst_rp r1 hp
      have st := (s1.trans s2).trans s3
      refine ⟨a, vs, rfl, w3.ex.sqL ((s2.ex.trans s3.ex).sqL h2), fun p hp => ?_⟩
      obtain ⟨w4, o4, g4⟩ := own_new w3 hp (st.back hp) (RpA.mono (s2.ex.trans s3.ex) _ (cut_rp h3 l u))
      exact k _ e2 _ [p] B3 _ G3 q3 w4 o4 (st.trans g4.stp) (((u1.trans u2).trans u3).trans (.gr g4))
    · exact q3.elim⟩
theorem do_slL {lo hi : Option Expr} {tl th : TO} {dl dh : dPO} {p2 : Pos} (h : DE m X e te de) (hl : DPO m X lo tl dl) (hu : DPO m X hi th dh) : DO m X (.Subscript e (.Slice lo hi none p2) pos) (tSl (rSlL X.K) te tl th) (dSlL de dl dh) :=
  ⟨pe_slice sl_list h.pe hl.pe hu.pe, snd_slL h.sd hl.sd hu.sd⟩
/-- of a list or a tuple: plain -/
def dSlS (de : dE) (lo hi : dPO) : dE := fun env Q => de env fun p e => lo e fun l e1 => hi e1 fun u e2 => match p with
  | .lst ps => Q (.lst (cutP ps l u)) e2
  | .rol ps => Q (.lst (cutP ps l u)) e2
  | .tup ps => ¬ (HT.sIx ps.length 0 l = 0 ∧ HT.sIx ps.length ps.length u = ps.length) ∧ Q (.tup (cutP ps l u)) e2
  | _ => False
def rSlS (K : PySem.W.Frag) : V → Option Int → Option Int → Hp → VK → Prop := fun x lo hi H Q => rSlL K x lo hi H Q ∨ rSlT K x lo hi H Q
theorem sl_seq : SlR X (rSlS X.K) := SlR.or sl_list sl_tup
theorem snd_slS {tl th : TO} {lo hi : dPO} (h : SndE m K te de) (hl : SndP m K tl lo) (hu : SndP m K th hi) : SndE m K (tSl (rSlS K) te tl th) (dSlS de lo hi) := ⟨fun {B H σ env G QD Q} w q k =>
  h.run w q fun p e v B1 H1 G1 q1 w1 r1 s1 u1 => hl.run w1 q1 fun l e1 B2 H2 G2 q2 w2 s2 u2 => hu.run w2 q2 fun u e2 B3 H3 G3 q3 w3 s3 u3 => by
    have st := (s1.trans s2).trans s3
    have ex := s2.ex.trans s3.ex
    have pu := (u1.trans u2).trans u3
    cases p with
    | lst ps =>
      obtain ⟨a, vs, rfl, h2, h3⟩ := r1
      refine .inl ⟨a, vs, rfl, SqL.of (w3.ex a _ (ex a _ h2)), fun p hp => ?_⟩
      have g4 := gr_new (o := .lst (cutV vs l u)) w3.ex hp
      exact k _ e2 _ _ _ G3 q3 (w3.gr g4) ⟨p, _, rfl, upd_same, RpA.mono (ex.trans g4.b) _ (cut_rp h3 l u)⟩ (st.trans g4.stp) (pu.trans (.gr g4))
    | rol ps =>
      obtain ⟨a, vs, rfl, h2, h3⟩ := r1
      refine .inl ⟨a, vs, rfl, w3.ex.sqL (ex.sqL h2), fun p hp => ?_⟩
      have g4 := gr_new (o := .lst (cutV vs l u)) w3.ex hp
      exact k _ e2 _ _ _ G3 q3 (w3.gr g4) ⟨p, _, rfl, upd_same, RpA.mono (ex.trans g4.b) _ (cut_rp h3 l u)⟩ (st.trans g4.stp) (pu.trans (.gr g4))
    | tup ps =>
      obtain ⟨a, vs, rfl, h2, h3⟩ := r1
      refine .inr ⟨a, vs, rfl, w3.ex.sqT (ex.sqT h2), by rw [h3.length]; exact q3.1, fun p hp => ?_⟩
      have g4 := gr_new (o := .tup (cutV vs l u)) w3.ex hp
      exact k _ e2 _ _ _ G3 q3.2 (w3.gr g4) ⟨p, _, rfl, SqT.of upd_same, RpA.mono (ex.trans g4.b) _ (cut_rp h3 l u)⟩ (st.trans g4.stp) (pu.trans (.gr g4))
    | _ => exact q3.elim⟩
theorem de_slS {lo hi : Option Expr} {tl th : TO} {dl dh : dPO} {p2 : Pos} (h : DE m X e te de) (hl : DPO m X lo tl dl) (hu : DPO m X hi th dh) : DE m X (.Subscript e (.Slice lo hi none p2) pos) (tSl (rSlS X.K) te tl th) (dSlS de dl dh) :=
  ⟨pe_slice sl_seq h.pe hl.pe hu.pe, snd_slS h.sd hl.sd hu.sd⟩
/-! ### calls with keywords -/
def tCat (t tk : TA) : TA := fun σ H Q => t σ H fun vs H1 => tk σ H1 fun zs H2 => Q (vs ++ zs) H2
def dCat (d dk : dA) : dA := fun env Q => d env fun as e => dk e fun bs e2 => Q (as ++ bs) e2
theorem RpX.cat {B : Hp} {σ : L2.St} : ∀ {as bs : List AR} {vs us : List V}, RpX K B σ as vs → RpX K B σ bs us → RpX K B σ (as ++ bs) (vs ++ us)
  | [], _, _, _, h, g => by rw [show _ = ([] : List V) from h]; exact g
  | .inl p :: as, _, _, us, ⟨v, r, e1, e2, e3⟩, g => ⟨v, r ++ us, by rw [e1]; rfl, e2, RpX.cat e3 g⟩
  | .inr i :: as, _, _, us, ⟨v, r, e1, e2, e3⟩, g => ⟨v, r ++ us, by rw [e1]; rfl, e2, RpX.cat e3 g⟩
theorem snd_cat {t tk : TA} {d dk : dA} (h : SndA m K t d) (g : SndA m K tk dk) : SndA m K (tCat t tk) (dCat d dk) := ⟨fun w q k => h.run w q fun as e vs B1 H1 G1 q1 w1 r1 s1 u1 => g.run w1 q1 fun bs e2 us B2 H2 G2 q2 w2 r2 s2 u2 =>
  k _ e2 _ B2 H2 G2 q2 w2 ((RpX.mono s2.ex r1).cat r2) (s1.trans s2) (u1.trans u2)⟩
structure DK (m : Bool) (X : Cx) (kws : List Keyword) (t : TA) (d : dA) : Prop where
  pe : PK X kws t
  sd : SndA m X.K t d
theorem dk_nil : DK m X [] tNil dNil := ⟨pk_nil, snd_nil⟩
theorem dk_cons {nm : Option Str} {kpos : Pos} {kws : List Keyword} {t : TA} {d : dA} (h : DE m X e te de) (g : DK m X kws t d) : DK m X (⟨nm, e, kpos⟩ :: kws) (tCons te t) (dCons de d) := ⟨pk_cons h.pe g.pe, snd_cons h.sd g.sd⟩
/-- what is positional, then the keywords -/
def gK {α : Type} (n k : Nat) (us ws : List α) : List α := if us.length = n ∧ ws.length = k then us ++ ws else []
def dCatK (n k : Nat) (d dk : dA) : dA := fun env Q => d env fun as e => dk e fun bs e2 => (as.length = n ∧ bs.length = k) ∧ Q (as ++ bs) e2
def tCatK (n k : Nat) (t tk : TA) : TA := fun σ H Q => t σ H fun vs H1 => tk σ H1 fun zs H2 => Q (gK n k vs zs) H2
theorem snd_catK {n k : Nat} {t tk : TA} {d dk : dA} (h : SndA m K t d) (g : SndA m K tk dk) : SndA m K (tCatK n k t tk) (dCatK n k d dk) := ⟨fun w q kk => h.run w q fun as e vs B1 H1 G1 q1 w1 r1 s1 u1 => g.run w1 q1 fun bs e2 us B2 H2 G2 q2 w2 r2 s2 u2 => by
  have hl : gK n k vs us = vs ++ us := by
    unfold gK
    rw [if_pos ⟨by rw [r1.len]; exact q2.1.1, by rw [r2.len]; exact q2.1.2⟩]
  show _
  rw [hl]
  exact kk _ e2 _ B2 H2 G2 q2.2 w2 ((RpX.mono s2.ex r1).cat r2) (s1.trans s2) (u1.trans u2)⟩
theorem do_callK {n k : Nat} {fs : FSp} {E : XK} {kws : List Keyword} {e0 : Expr} {es : List Expr} {t tk : TA} {d dk : dA} (h : PA X (e0 :: es) t → PK X kws tk → PE X a (tCallK (spD X.K fs) (gK n k) E t tk)) (ha : DA m X (e0 :: es) t d) (hk : DK m X kws tk dk) :
    DO m X a (tCallK (spD X.K fs) (gK n k) E t tk) (dCallP fs (dCatK n k d dk)) := ⟨h ha.pe hk.pe, by
  have := snd_callP (fs := fs) (E := E) (snd_catK (n := n) (k := k) ha.sd hk.sd)
  refine ⟨fun {B H σ env G QD Q} w q kk => ?_⟩
  have r := this.run w q kk
  show t σ H fun vs H1 => tk σ H1 fun zs H2 => spD X.K fs (gK n k vs zs) H2 Q E
  have r' : t σ H fun vs H1 => tk σ H1 fun zs H2 => spD X.K fs (gK n k vs zs ++ []) H2 Q E := r
  simpa only [List.append_nil] using r'⟩
theorem kb_of {fd : FuncData} {ps ks : List Str} {n k : Nat} (hps : ps.length = n + k) (h0 : 0 < n + k) (h : ∀ us ws : List Value, us.length = n → ws.length = k → bindArgs fd ⟨us, ks.zip ws⟩ = pure (ps.zip (us ++ ws))) : KBinds K fd ps ks (gK n k) (gK n k) where
  to := fun s us ws _ hl => by
    unfold gK at hl ⊢
    split at hl
    · rename_i hc
      rw [if_pos hc]
      exact .of_eq (h us ws hc.1 hc.2)
    · rw [hps] at hl
      simp at hl
      omega
  rel := fun {vs us zs ws} r s => by
    unfold gK
    rw [r.length, s.length]
    split
    · exact r.append s
    · exact .nil
theorem Fun.kbinds {x qual : Str} {st : Stmt} {f : Addr} {fd : FuncData} {ps ks : List Str} {n k : Nat} (F : L2.Fun K x qual st f fd) (hps : ps.length = n + k) (h0 : 0 < n + k)
    (h : ∀ (kV doc pm : Value) (an : Option Addr) (cdv ct : Value) (us ws : List Value), us.length = n → ws.length = k → bindArgs (PySem.W.fnOf x qual (defArgs st) (defBody st) (defScope st) .none kV doc pm an cdv ct) ⟨us, ks.zip ws⟩ = pure (ps.zip (us ++ ws))) : KBinds K fd ps ks (gK n k) (gK n k) := by
  obtain ⟨oc, od, kV, doc, pm, an, cdv, ct, osl, rfl, lk, hcd⟩ := F.ex
  exact kb_of hps h0 (h kV doc pm an cdv ct)
end
end DL
set_option Elab.async false
set_option linter.all false
set_option maxRecDepth 100000
namespace DL
open PySem PySem.Spec L2
/-- a def as a caller has it -/
structure Callee (Pg : Program) (w : World) (K : PySem.W.Frag) (mg : Str → Option Value) (base : Heap) (k : Nat) (x : Str) (f : Addr) (fd : FuncData) (ps : List Str) (fs : FSp) : Prop where
  ok : FnOk Pg w K mg base CX0 k f fd ps (spD K fs)
  g : mg x = some (.ref f)
  kp : PySem.W.keepIn K (.ref f) = true
  b : Binds K fd ps []
structure CalleeK (Pg : Program) (w : World) (K : PySem.W.Frag) (mg : Str → Option Value) (base : Heap) (k : Nat) (x : Str) (f : Addr) (fd : FuncData) (ps ks : List Str) (n j : Nat) (fs : FSp) : Prop where
  ok : FnOk Pg w K mg base CX0 k f fd ps (spD K fs)
  g : mg x = some (.ref f)
  kp : PySem.W.keepIn K (.ref f) = true
  kb : KBinds K fd ps ks (gK n j) (gK n j)

/-! ### a, b = a list or a tuple -/
def gOr (g1 g2 : TG) : TG := fun v σ H Q => g1 v σ H Q ∨ g2 v σ H Q
theorem pg_or {X : Cx} {tg : Expr} {g1 g2 : TG} (h1 : PG X tg g1) (h2 : PG X tg g2) : PG X tg (gOr g1 g2) := ⟨fun pins s σ H v u Q I r h => h.elim (h1.run pins s σ H v u Q I r) (h2.run pins s σ H v u Q I r)⟩
def dgSeq (n : Nat) (gs : dGs) : dG := fun p env Q => match p with
  | .tup ps => ps.length = n ∧ gs ps env Q
  | .lst ps => ps.length = n ∧ gs ps env Q
  | .rol ps => ps.length = n ∧ gs ps env Q
  | _ => False
section
variable {pn : List Nat} {K : PySem.W.Frag} {X : Cx} {a : Expr} {es : List Expr}
theorem snd_gseq {n : Nat} {gs : TGs} {dgs : dGs} (hs : SndGs pn K gs dgs) : SndG pn K (gOr (gTup K n gs) (gUnl K n gs)) (dgSeq n dgs) := ⟨fun {B H σ env G p v QD Q} w r q k => by
  cases p with
  | tup ps =>
    obtain ⟨a, vs, e1, e2, e3⟩ := r
    exact .inl ⟨a, vs, e1, w.ex.sqT e2, e3.length.trans q.1, hs.run w e3 q.2 k⟩
  | lst ps =>
    obtain ⟨a, vs, e1, e2, e3⟩ := r
    exact .inr ⟨a, vs, e1, SqL.of (w.ex a _ e2), e3.length.trans q.1, hs.run w e3 q.2 k⟩
  | rol ps =>
    obtain ⟨a, vs, e1, e2, e3⟩ := r
    exact .inr ⟨a, vs, e1, w.ex.sqL e2, e3.length.trans q.1, hs.run w e3 q.2 k⟩
  | _ => exact q.elim⟩
theorem dg_seq {n : Nat} {gs : TGs} {dgs : dGs} (h : PGs X es gs → PG X a (gTup X.K n gs)) (h2 : PGs X es gs → PG X a (gUnl X.K n gs)) (hs : DGs pn X es gs dgs) : DG pn X a (gOr (gTup X.K n gs) (gUnl X.K n gs)) (dgSeq n dgs) :=
  ⟨pg_or (h hs.pe) (h2 hs.pe), snd_gseq hs.sd⟩
end
/-! ### lists of ints -/
abbrev pI (ns : List Int) : List P := ns.map P.int
theorem toDs_map {α : Type} (f : α → P) (xs : List α) : P.toDs (xs.map f) = xs.map fun x => (f x).toD := by
  induction xs with
  | nil => rfl
  | cons x xs ih => show P.toD (f x) :: P.toDs (xs.map f) = _; rw [ih]; rfl
theorem canLayAll_map {α : Type} {f : α → P} {xs : List α} (h : ∀ x ∈ xs, (f x).toD.canLay0 = true) : PyData.canLayAll0 (P.toDs (xs.map f)) = true := by
  induction xs with
  | nil => rfl
  | cons x xs ih =>
    show (PyData.canLay0 (f x).toD && PyData.canLayAll0 (P.toDs (xs.map f))) = true
    rw [h x List.mem_cons_self, ih fun y hy => h y (List.mem_cons_of_mem _ hy)]
    rfl
theorem depthAll_map {α : Type} {f : α → P} {xs : List α} {n : Nat} (h : ∀ x ∈ xs, (f x).toD.depth ≤ n) : PyData.depthAll (P.toDs (xs.map f)) ≤ n := by
  induction xs with
  | nil => exact Nat.zero_le _
  | cons x xs ih =>
    show max (PyData.depth (f x).toD) (PyData.depthAll (P.toDs (xs.map f))) ≤ n
    exact Nat.max_le.mpr ⟨h x List.mem_cons_self, ih fun y hy => h y (List.mem_cons_of_mem _ hy)⟩
/-- data of a depth, as == takes it -/
structure Shp (p : P) (n : Nat) : Prop where
  c : p.toD.canLay0 = true
  d : p.toD.depth ≤ n
theorem Shp.ok {p : P} {n : Nat} (h : Shp p n) (hn : n ≤ 64 := by decide) : SeqAt.shaped p.toD = true := by
  unfold SeqAt.shaped
  rw [h.c, decide_eq_true (Nat.le_trans h.d hn)]
  rfl
theorem shp_int (i : Int) : Shp (.int i) 0 := ⟨rfl, Nat.le_refl _⟩
theorem shp_bl (i : Bool) : Shp (.bl i) 0 := ⟨rfl, Nat.le_refl _⟩
theorem shp_non : Shp .non 0 := ⟨rfl, Nat.le_refl _⟩
theorem Shp.lst {α : Type} {f : α → P} {xs : List α} {n : Nat} (h : ∀ x ∈ xs, Shp (f x) n) : Shp (.lst (xs.map f)) (n + 1) :=
  ⟨canLayAll_map fun x hx => (h x hx).c, Nat.succ_le_succ (depthAll_map fun x hx => (h x hx).d)⟩
theorem Shp.tup {α : Type} {f : α → P} {xs : List α} {n : Nat} (h : ∀ x ∈ xs, Shp (f x) n) : Shp (.tup (xs.map f)) (n + 1) :=
  ⟨canLayAll_map fun x hx => (h x hx).c, Nat.succ_le_succ (depthAll_map fun x hx => (h x hx).d)⟩
theorem shp_ints (ns : List Int) : Shp (.lst (pI ns)) 1 := .lst fun _ _ => shp_int _
theorem shp_tints (ns : List Int) : Shp (.tup (pI ns)) 1 := .tup fun _ _ => shp_int _
theorem Shp.refl {p : P} {n : Nat} (h : Shp p n) : PyData.eqv p.toD p.toD = true := SeqAt.eqv_refl _ h.c
theorem atI_map {α : Type} {f : α → P} {xs : List α} {j : Nat} (h : j < xs.length) : atI (xs.map f) (j : Int) = some (f xs[j]) := atI_nat (by rw [List.getElem?_map, List.getElem?_eq_getElem h]; rfl)
/-! ### bounds -/
theorem log_lt {i : Int} {n : Nat} (h0 : -(2 ^ n : Int) < i) (h1 : i < 2 ^ n) (hn : 0 < n) : i.natAbs.log2 < n := by
  by_cases h : i.natAbs = 0
  · rw [h]; simpa using hn
  · refine (Nat.log2_lt h).mpr ?_
    have : ((2 ^ n : Nat) : Int) = (2 : Int) ^ n := by push_cast; rfl
    omega
theorem cmul_of {i j : Int} (n m : Nat) (hi : -(2 ^ n : Int) < i ∧ i < 2 ^ n) (hj : -(2 ^ m : Int) < j ∧ j < 2 ^ m) (hn : 0 < n := by decide) (hm : 0 < m := by decide) (h : n + m ≤ 1000000 := by decide) : CMulW i j := by
  have h1 := log_lt hi.1 hi.2 hn
  have h2 := log_lt hj.1 hj.2 hm
  show i.natAbs.log2 + j.natAbs.log2 < 1000000
  omega
theorem cmul64 {i j : Int} (hi : -18446744073709551616 < i ∧ i < 18446744073709551616) (hj : -18446744073709551616 < j ∧ j < 18446744073709551616) : CMulW i j := cmul_of 64 64 hi hj
theorem cdiv_of {i j : Int} (h0 : 0 < j) (h1 : j < 18446744073709551616) : CDivW i j := ⟨h0, Nat.lt_trans (log_lt (n := 64) (by omega) h1 (by decide)) (by decide)⟩
end DL
set_option Elab.async false
set_option linter.all false
set_option maxRecDepth 100000
namespace DL
open PySem PySem.Spec L2
/-! ### a call one of whose arguments is new and the callee's to change -/
abbrev dAF := Env → (List P → D → List P → Env → Prop) → Prop
structure SndAF (K : PySem.W.Frag) (te : TA) (de : dAF) : Prop where
  run : ∀ {B H : Hp} {σ : L2.St} {env : Env} {G : Fp} {QD : List P → D → List P → Env → Prop} {Q : List V → Hp → Prop}, Wd K B H σ env G → de env QD →
    (∀ ps1 d ps2 env' vs1 v vs2 F B' H' G', QD ps1 d ps2 env' → Wd K B' H' σ env' G' → RpA K B' ps1 vs1 → RpA K B' ps2 vs2 → Own K H G B' H' G' d v F → Stp B H G B' H' G' → Q (vs1 ++ v :: vs2) H') → te σ H Q
structure DAF (X : Cx) (e : List Expr) (te : TA) (de : dAF) : Prop where
  pe : PA X e te
  sd : SndAF X.K te de
def dHere (dq : dO) (da : dA) : dAF := fun env Q => dq env fun d e => da e fun as e2 => match prs as with
  | some ps => Q [] d ps e2
  | none => False
def dThere (de : dE) (df : dAF) : dAF := fun env Q => de env fun p e => df e fun ps1 d ps2 e2 => Q (p :: ps1) d ps2 e2
def dCallF (fs : FSp) (df : dAF) : dO := fun env Q => df env fun ps1 d ps2 e => fs (ps1.map D.sh ++ d :: ps2.map D.sh) fun r _ => Q r e
section
variable {m : Bool} {K : PySem.W.Frag} {te : TE} {ta : TA} {de : dE} {dq : dO} {da : dA} {df : dAF} {X : Cx} {a b : Expr} {es : List Expr}
theorem snd_here (h : SndO false K te dq) (g : SndA true K ta da) : SndAF K (tCons te ta) (dHere dq da) := ⟨fun {B H σ env G QD Q} w q k => h.run w q fun d e v F B1 H1 G1 q1 w1 o1 s1 _ =>
  g.run w1 q1 fun as e2 vs B2 H2 G2 q2 w2 r2 s2 u2 => by
    obtain ⟨rfl, rfl, g2⟩ := u2 rfl
    change (match prs as with | some ps => QD [] d ps e2 | none => False) at q2
    cases hp : prs as with
    | none => rw [hp] at q2; exact q2.elim
    | some ps =>
      rw [hp] at q2
      have kp : ∀ x ∈ F, ∀ o, H1 x = some o → H2 x = some o := fun x _ o ho => g2.h x o ho
      refine k [] d ps e2 [] v vs F B2 H2 G2 q2 w2 rfl (RpX.all r2 hp) ⟨RpD.mono g2.b o1.rp fun x hx o ho => kp x hx o ho, o1.nd, fun x hx => ?_, o1.nw, o1.ap⟩ (s1.trans s2)
      obtain ⟨o, ho⟩ := RpD.there o1.rp x hx
      exact g2.n x o ho (o1.nb x hx)⟩
theorem snd_there (h : SndE m K te de) (g : SndAF K ta df) : SndAF K (tCons te ta) (dThere de df) := ⟨fun {B H σ env G QD Q} w q k => h.run w q fun p e v B1 H1 G1 q1 w1 r1 s1 _ =>
  g.run w1 q1 fun ps1 d ps2 e2 vs1 v2 vs2 F B2 H2 G2 q2 w2 r2 r3 o2 s2 => by
    refine k (p :: ps1) d ps2 e2 (v :: vs1) v2 vs2 F B2 H2 G2 q2 w2 ⟨v, vs1, rfl, Rp.mono s2.ex p r1, r2⟩ r3 ⟨o2.rp, o2.nd, o2.nb, fun x hx => ?_, o2.ap⟩ (s1.trans s2)
    rcases o2.nw x hx with ⟨j, hj⟩ | hn
    · exact s1.fp j x hj
    · exact .inr (s1.back hn)⟩
theorem da_here (h : DO false X a te dq) (g : DA true X es ta da) (hs : starEach (a :: es) X.env = (false, eval a X.env) :: starEach es X.env := by rfl) : DAF X (a :: es) (tCons te ta) (dHere dq da) := ⟨pa_cons h.pe g.pe hs, snd_here h.sd g.sd⟩
theorem da_there (h : DE m X a te de) (g : DAF X es ta df) (hs : starEach (a :: es) X.env = (false, eval a X.env) :: starEach es X.env := by rfl) : DAF X (a :: es) (tCons te ta) (dThere de df) := ⟨pa_cons h.pe g.pe hs, snd_there h.sd g.sd⟩
theorem Wd.more {B H : Hp} {σ : L2.St} {env : Env} {G : Fp} (w : Wd K B H σ env G) : Wd K B H (σ ++ [none]) (env ++ [none]) G := by
  have key : ∀ i d, (env ++ [none])[i]? = some (some d) ↔ env[i]? = some (some d) := fun i d => by
    by_cases h : i < env.length
    · rw [List.getElem?_append_left h]
    · rw [List.getElem?_append_right (by omega), List.getElem?_eq_none (l := env) (by omega)]
      constructor
      · intro e
        cases hh : i - env.length with
        | zero => rw [hh] at e; cases e
        | succ n => rw [hh] at e; cases e
      · intro e; cases e
  refine ⟨w.ex, fun i d e => ?_, fun i h => w.no i fun d e => h d ((key i d).mpr e), w.nd, w.dj, w.nb, by rw [List.length_append, List.length_append, w.len]; rfl⟩
  have e' := (key i d).mp e
  obtain ⟨v, h1, h2⟩ := w.sl i d e'
  exact ⟨v, by rw [List.getElem?_append_left (by rw [← w.len]; exact env_lt e')]; exact h1, h2⟩
theorem Wd.less {B H : Hp} {σ : L2.St} {env : Env} {G : Fp} {x : Option V} {env2 : Env} (w : Wd K B H (σ ++ [x]) env2 G) (hl : env.length = σ.length) (h : ∀ i, i ≠ env.length → env2[i]? = env[i]?) : Wd K B H σ env (fun i => if i = env.length then [] else G i) where
  ex := w.ex
  sl := fun i d e => by
    have hi := env_lt e
    obtain ⟨v, h1, h2⟩ := w.sl i d (by rw [h i (by omega)]; exact e)
    rw [List.getElem?_append_left (by omega)] at h1
    exact ⟨v, h1, by rw [if_neg (by omega)]; exact h2⟩
  no := fun i hn => by
    show (if i = env.length then [] else G i) = []
    split
    · rfl
    · rename_i hi
      refine w.no i fun d e => hn d ?_
      rw [h i hi] at e; exact e
  nd := fun i => by
    show (if i = env.length then [] else G i).Nodup
    split
    · exact List.nodup_nil
    · exact w.nd i
  dj := fun i j a h1 h2 => by
    change a ∈ (if i = env.length then [] else G i) at h1
    change a ∈ (if j = env.length then [] else G j) at h2
    split at h1 <;> split at h2
    · cases h1
    · cases h1
    · cases h2
    · exact w.dj i j a h1 h2
  nb := fun i a h1 => by
    change a ∈ (if i = env.length then [] else G i) at h1
    split at h1
    · cases h1
    · exact w.nb i a h1
  len := hl
theorem slots_pl : ∀ (ps : List P) (as : List AR), slots (ps.map Sum.inl ++ as) = slots as
  | [], _ => rfl
  | _ :: ps, as => slots_pl ps as
theorem RpX.pl {B : Hp} {σ : L2.St} {as : List AR} {us : List V} (h : RpX K B σ as us) : ∀ {ps : List P} {vs : List V}, RpA K B ps vs → RpX K B σ (ps.map Sum.inl ++ as) (vs ++ us)
  | [], vs, r => by rw [show vs = [] from r]; exact h
  | p :: ps, vs, ⟨v, r, e, h1, h2⟩ => by rw [e]; exact ⟨v, r ++ us, rfl, h1, RpX.pl h h2⟩
theorem argD_pl (env : Env) (ps : List P) : (ps.map Sum.inl).map (argD env) = ps.map D.sh := by
  rw [List.map_map]; rfl
theorem snd_callF {fs : FSp} {E : XK} (h : SndAF K ta df) : SndO false K (tCall (spD K fs) [] E ta) (dCallF fs df) := ⟨fun {B H σ env G QD Q} w q k => by
  refine h.run w q fun ps1 d ps2 e vs1 v vs2 F B1 H1 G1 q1 w1 r1 r2 o1 s1 => ?_
  show spD K fs (vs1 ++ v :: vs2 ++ []) H1 Q E
  rw [List.append_nil]
  have wm := (w1.more).put (i := e.length) (v := v) (d := d) (F := F) (by rw [List.length_append]; simp) o1.rp o1.nd o1.nb (fun a ha j _ => o1.ap a ha j)
  have eσ : (σ ++ [none]).set e.length (some v) = σ ++ [some v] := by rw [w1.len, List.set_append_right _ _ (Nat.le_refl _), Nat.sub_self]; rfl
  have ee : (e ++ [none]).set e.length (some d) = e ++ [some d] := by rw [List.set_append_right _ _ (Nat.le_refl _), Nat.sub_self]; rfl
  rw [eσ, ee] at wm
  let as : List AR := ps1.map Sum.inl ++ (Sum.inr e.length :: (ps2.map Sum.inl ++ []))
  have hsl : slots as = [e.length] := by
    show slots (ps1.map Sum.inl ++ (Sum.inr e.length :: (ps2.map Sum.inl ++ []))) = _
    rw [slots_pl]
    show e.length :: slots (ps2.map Sum.inl ++ []) = _
    rw [slots_pl]; rfl
  have hget : (e ++ [some d])[e.length]? = some (some d) := by rw [List.getElem?_append_right (Nat.le_refl _), Nat.sub_self]; rfl
  have ok : argsOk as (e ++ [some d]) = true := by
    unfold argsOk
    rw [hsl]
    show (decide ([e.length].Nodup) && (has (e ++ [some d]) e.length && true)) = true
    unfold has
    rw [hget, decide_eq_true (by simp)]
    rfl
  have hx : RpX K B1 (σ ++ [some v]) as (vs1 ++ v :: vs2) := by
    have h2' : RpX K B1 (σ ++ [some v]) (ps2.map Sum.inl ++ []) vs2 := by
      have := RpX.pl (K := K) (B := B1) (σ := σ ++ [some v]) (as := []) (us := []) rfl r2
      rw [List.append_nil vs2] at this
      exact this
    have h0 : RpX K B1 (σ ++ [some v]) (Sum.inr e.length :: (ps2.map Sum.inl ++ [])) (v :: vs2) := ⟨v, vs2, rfl, by rw [w1.len, List.getElem?_append_right (Nat.le_refl _), Nat.sub_self]; rfl, h2'⟩
    exact RpX.pl h0 r1
  have hD : as.map (argD (e ++ [some d])) = ps1.map D.sh ++ d :: ps2.map D.sh := by
    show (ps1.map Sum.inl ++ (Sum.inr e.length :: (ps2.map Sum.inl ++ []))).map (argD (e ++ [some d])) = _
    rw [List.map_append, List.map_cons, List.append_nil, argD_pl, argD_pl, argD_at hget]
  have wa := wm.args hx ok
  rw [hD] at wa
  refine ⟨B1, _, _, _, wa, q1, fun d2 ds v2 F2 B2 H2 G2 q2 w2 o2 s2 => ?_⟩
  obtain ⟨w3, s3, m3⟩ := wm.after hx ok w2 s2
  have w4 := w3.less (env := e) w1.len fun i hi => by
    rw [updS_out (by rw [hsl]; simpa using hi)]
    by_cases hlt : i < e.length
    · rw [List.getElem?_append_left hlt]
    · rw [List.getElem?_append_right (by omega), List.getElem?_eq_none (l := e) (by omega)]
      exact List.getElem?_eq_none (by show 1 ≤ _; omega)
  have m4 : ∀ i x, x ∈ (if i = e.length then [] else backG as (fun j => if j = e.length then F else G1 j) G2 i) → x ∈ G1 i := fun i x hx' => by
    split at hx'
    · cases hx'
    · rename_i hi
      unfold backG at hx'
      rcases find_slot (as := as) (i := i) with ⟨j, h1, h2⟩ | ⟨h1, h2⟩
      · have := mem_slots.mpr ⟨j, h2⟩
        rw [hsl] at this
        exact absurd (List.mem_singleton.mp this) hi
      · rw [h1] at hx'
        change x ∈ (if i = e.length then F else G1 i) at hx'
        rw [if_neg hi] at hx'
        exact hx'
  have nF : ∀ j x, x ∈ argG as (fun j => if j = e.length then F else G1 j) j → x ∈ F := fun j x hx' => by
    obtain ⟨i, h1, h2⟩ := argG_in hx'
    have := mem_slots.mpr ⟨j, h1⟩
    rw [hsl] at this
    have e2 := List.mem_singleton.mp this
    change x ∈ (if i = e.length then F else G1 i) at h2
    rw [if_pos e2] at h2
    exact h2
  have nwF : ∀ x ∈ F, (∃ j, x ∈ G j) ∨ H x = none := o1.nw
  have s4 : Stp B H G B2 H2 (fun i => if i = e.length then [] else backG as (fun j => if j = e.length then F else G1 j) G2 i) := by
    refine ⟨s1.ex.trans s2.ex, fun a o ho hn => ?_, fun i a ha => s1.fp i a (m4 i a ha), fun a o ho hb hn => ?_, fun a o ho => ?_⟩
    · refine s2.kp a o (s1.kp a o ho hn) fun j hj => ?_
      rcases nwF a (nF j a hj) with ⟨i, hi⟩ | hz
      · exact hn i hi
      · rw [ho] at hz; cases hz
    · refine s2.bs a o (s1.kp a o ho hn) (s1.bs a o ho hb hn) fun j hj => ?_
      rcases nwF a (nF j a hj) with ⟨i, hi⟩ | hz
      · exact hn i hi
      · rw [ho] at hz; cases hz
    · obtain ⟨o', h'⟩ := s1.th a o ho
      exact s2.th a o' h'
  refine k d2 e v2 F2 B2 H2 _ q2 w4 ⟨o2.rp, o2.nd, o2.nb, fun x hx' => ?_, fun x hx' i hi => ?_⟩ s4 .off
  · rcases o2.nw x hx' with ⟨j, hj⟩ | hn
    · exact o1.nw x (nF j x hj)
    · exact .inr (s1.back hn)
  · have hg := m4 i x hi
    rcases o2.nw x hx' with ⟨j, hj⟩ | hn
    · exact o1.ap x (nF j x hj) i hg
    · exact w1.off hn i hg⟩
theorem do_callF {fs : FSp} {E : XK} {e0 : Expr} (h : PA X (e0 :: es) ta → PE X a (tCall (spD X.K fs) [] E ta)) (ha : DAF X (e0 :: es) ta df) : DO false X a (tCall (spD X.K fs) [] E ta) (dCallF fs df) := ⟨h ha.pe, snd_callF ha.sd⟩
end
/-! ### two ways that meet again -/
def dMid (a b : dS) : dS := fun Dd env => ∃ M : Env → Prop, a { Dd with nx := M } env ∧ ∀ e, M e → b Dd e
theorem snd_mid {pn : List Nat} {K : PySem.W.Frag} {t u : TS} {dt1 du : dS} (h : SndS pn K t dt1) (g : SndS pn K u du) : SndS pn K (tSeq t u) (dMid dt1 du) := ⟨fun {B H σ env G Dd D} w q n r k1 k2 => by
  obtain ⟨M, q0, qm⟩ := q
  exact h.run (D := { D with nx := u D }) w q0 (fun env' σ' B' H' G' q1 w1 s1 p1 => g.run w1 (qm _ q1) (n.at s1 p1) (r.at s1 p1) (k1.at s1 p1) (k2.at s1 p1)) r k1 k2⟩
theorem dss_mid {pn : List Nat} {X : Cx} {st : Stmt} {rest : List Stmt} {t u : TS} {dt1 du : dS} (h : DS pn X st t dt1) (g : DSs pn X rest u du) : DSs pn X (st :: rest) (tSeq t u) (dMid dt1 du) := ⟨pss_cons h.pe g.pe, snd_mid h.sd g.sd⟩
end DL
set_option Elab.async false
set_option linter.all false
set_option maxRecDepth 100000
set_option maxHeartbeats 4000000
namespace K07
open PySem PySem.Spec PyProof.Rows L2 DL
def topS (i : Nat) : Stmt := PySem.Challenge.pw_signedpacts_k07_combine_and_keeps.main.body.getD i (.Pass ⟨0, 0, 0, 0⟩)
/-- a list or a tuple -/
def sq (t : Bool) (ps : List P) : P := if t then .tup ps else .lst ps
theorem pseq_sq (t : Bool) (ps : List P) : pseq (sq t ps) = some ps := by cases t <;> rfl
abbrev pR (t : Bool) (rs : List (List Int)) : List P := rs.map fun r => sq t (pI r)
theorem ixN_m1 {n : Nat} (h : 0 < n) : ixN n (-1) = some (n - 1) := by
  unfold ixN
  rw [if_neg (by decide), if_pos (by omega)]
  congr 1
  omega
theorem ixN_0 {n : Nat} (h : 0 < n) : ixN n 0 = some 0 := by
  unfold ixN
  rw [if_pos (by decide), if_pos (by omega)]
  rfl
theorem atI_m1 {α : Type} {xs : List α} {x : α} (h : xs[xs.length - 1]? = some x) : atI xs (-1) = some x := by
  unfold atI
  rw [ixN_m1 (by cases xs with | nil => cases h | cons => exact Nat.succ_pos _)]
  exact h
theorem atI_0 {α : Type} {xs : List α} {x : α} (h : xs[0]? = some x) : atI xs 0 = some x := by
  unfold atI
  rw [ixN_0 (by cases xs with | nil => cases h | cons => exact Nat.succ_pos _)]
  exact h
theorem last_map {α β : Type} {f : α → β} {xs : List α} {x : α} (h : xs[xs.length - 1]? = some x) : (xs.map f)[(xs.map f).length - 1]? = some (f x) := by
  rw [List.length_map, List.getElem?_map, h]; rfl
theorem fst_map {α β : Type} {f : α → β} {xs : List α} {x : α} (h : xs[0]? = some x) : (xs.map f)[0]? = some (f x) := by
  rw [List.getElem?_map, h]; rfl
theorem shp_rows (rs : List (List Int)) : Shp (.lst (rs.map fun r => P.lst (pI r))) 2 := .lst fun r _ => shp_ints r
theorem shp_trows (rs : List (List Int)) : Shp (.tup (rs.map fun r => P.tup (pI r))) 2 := .tup fun r _ => shp_tints r
theorem frz_oll (rows : List (List Int)) : (D.oll (rows.map pI)).frz = sq false (pR false rows) := by
  show P.lst (List.map P.lst (List.map pI rows)) = P.lst _
  rw [List.map_map]; rfl
theorem shp_oll (rs : List (List Int)) : Shp (D.oll (rs.map pI)).frz 2 := by rw [frz_oll]; exact shp_rows rs
theorem neqv {p : P} {n : Nat} (h : Shp p n) (g : (!PyData.eqv p.toD p.toD) = true) : False := by
  rw [h.refl] at g; exact Bool.noConfusion g
theorem tupO_pI : ∀ xs : List Int, tupO (.tup (pI xs))
  | [] => trivial
  | _ :: xs => ⟨trivial, tupO_pI xs⟩
local macro_rules | `(tactic| walk_at "ok") => `(tactic| first | ((with_reducible show SeqAt.shaped _ = true); first | exact (shp_ints _).ok | exact (shp_tints _).ok | exact (shp_rows _).ok | exact (shp_trows _).ok | exact (shp_oll _).ok) | ((with_reducible show (_ : Bool) = true); rfl) | ((with_reducible show slots _ = _); rfl) | ((with_reducible show List.length _ = _); rfl) | ((with_reducible show _ ≤ sizeLine); first | decide | (rw [sizeLine_eq]; first | omega | (simp only [List.length_map, List.length_append, List.length_cons, List.length_nil, List.length_take]; omega))) | ((with_reducible show _ < sizeLine); first | decide | (rw [sizeLine_eq]; first | omega | (simp only [List.length_map, List.length_append, List.length_cons, List.length_nil, List.length_take]; omega))) | ((with_reducible show CDivW _ _); refine cdiv_of ?_ ?_ <;> omega) | ((with_reducible show CMulW _ _); refine cmul64 ⟨?_, ?_⟩ ⟨?_, ?_⟩ <;> omega) | ((with_reducible show (0 : Int) < _); first | decide | omega) | ((with_reducible show (_ ∧ _)); exact ⟨rfl, rfl⟩) | (with_reducible assumption) | omega)
local macro_rules | `(tactic| walk_at "go") => `(tactic| ((repeat ((conv => whnf); refine And.intro (by walk_at "ok") ?_)); (try (conv => whnf))))
/-- an int that no product makes too great -/
def Sm (x : Int) : Prop := -(2 ^ 1000 : Int) < x ∧ x < 2 ^ 1000
theorem sm_mul {a b : Int} (ha : Sm a) (hb : Sm b) : CMulW a b := cmul_of 1000 1000 ha hb
theorem sm_of {v : Int} (B : Int) (h : -B ≤ v ∧ v ≤ B) (hB : B < 2 ^ 1000 := by decide +kernel) : Sm v := ⟨by omega, by omega⟩
theorem sm_div {a b : Int} (ha : 0 < b) (hb : Sm b) : CDivW a b := ⟨ha, Nat.lt_trans (log_lt (n := 1000) hb.1 hb.2 (by decide)) (by decide)⟩
theorem map_get {α : Type} {f : α → P} {xs : List α} {i : Nat} {p : P} (h : (xs.map f)[i]? = some p) : ∃ x, xs[i]? = some x ∧ p = f x := by
  rw [List.getElem?_map] at h
  cases e : xs[i]? with
  | none => rw [e] at h; cases h
  | some n => rw [e] at h; cases h; exact ⟨n, rfl, rfl⟩
theorem take_map {α β : Type} {f : α → β} {xs : List α} {i : Nat} {x : α} (h : xs[i]? = some x) : (xs.take (i + 1)).map f = (xs.take i).map f ++ [f x] := by
  rw [List.take_succ, h, List.map_append]; rfl
theorem getD_of {α : Type} {xs : List α} {i : Nat} {x d : α} (h : xs[i]? = some x) : xs.getD i d = x := by rw [List.getD_eq_getElem?_getD, h]; rfl
theorem atI0 {α : Type} {f : α → P} {xs : List α} {j : Nat} {x : α} (h : xs[j]? = some x) : atI (xs.map f) (0 + (j : Int)) = some (f x) := by
  rw [Int.zero_add]; exact atI_nat (by rw [List.getElem?_map, h]; rfl)
theorem lt_of_get {α : Type} {xs : List α} {i : Nat} {x : α} (h : xs[i]? = some x) : i < xs.length := (List.getElem?_eq_some_iff.mp h).1
theorem pI_snoc (xs : List Int) (v : Int) : pI (xs ++ [v]) = pI xs ++ [.int v] := by simp only [pI, List.map_append]; rfl
/-! ### combine -/
abbrev s_combine : Stmt := topS 1
theorem sc_combine : FnScope ["rows", "factors", "width", "total", "_", "row", "factor", "entry", "more"] ["rows", "factors", "width"] (defScope s_combine) := ⟨rfl, rfl, rfl, by decide +kernel, rfl, by decide +kernel, by decide +kernel⟩
/-- one row more -/
def stepC (t r : List Int) (f : Int) : List Int := (t.zip r).map fun q => q.1 + f * q.2
def combN (w : Nat) (rows : List (List Int)) (fs : List Int) : Nat → List Int
  | 0 => List.replicate w 0
  | i + 1 => stepC (combN w rows fs i) (rows.getD i []) (fs.getD i 0)
def combF (w : Nat) (rows : List (List Int)) (fs : List Int) : List Int := combN w rows fs rows.length
/-- what is handed to combine -/
structure CIn (w : Nat) (rows : List (List Int)) (fs : List Int) : Prop where
  hw : w ≤ 1000
  hn : rows.length ≤ 1000
  len : ∀ r ∈ rows, r.length = w
  fl : fs.length = rows.length
  sf : ∀ f ∈ fs, Sm f
  sr : ∀ r ∈ rows, ∀ x ∈ r, Sm x
theorem combN_len {w : Nat} {rows : List (List Int)} {fs : List Int} (h : CIn w rows fs) : ∀ i, i ≤ rows.length → (combN w rows fs i).length = w
  | 0, _ => List.length_replicate
  | i + 1, hi => by
    show (stepC _ _ _).length = w
    have e : (rows.getD i []).length = w := by
      rw [List.getD_eq_getElem?_getD, List.getElem?_eq_getElem (show i < rows.length from hi)]
      exact h.len _ (List.getElem_mem _)
    rw [stepC, List.length_map, List.length_zip, combN_len h i (by omega), e, Nat.min_self]
theorem rep0 {w : Nat} : (List.replicate (w : Int).toNat ((fun x => P.int 0 :: x) [])).flatten = pI (List.replicate w 0) := by
  rw [Int.toNat_natCast, pI, List.map_replicate]
  induction w with
  | zero => rfl
  | succ n ih => rw [List.replicate_succ, List.flatten_cons, ih, List.replicate_succ]; rfl
theorem stepC_get {t r : List Int} {f x y : Int} {j : Nat} (h1 : t[j]? = some x) (h2 : r[j]? = some y) : (stepC t r f)[j]? = some (x + f * y) := by
  rw [stepC, List.getElem?_map, (List.getElem?_zip_eq_some (z := (x, y))).mpr ⟨h1, h2⟩]; rfl
theorem zipP_pI : ∀ (a b : List Int), zipP (pI a) (pI b) = (a.zip b).map fun q => P.tup [.int q.1, .int q.2]
  | [], b => by cases b <;> rfl
  | _ :: _, [] => rfl
  | x :: a, y :: b => by
    show P.tup [.int x, .int y] :: zipP (pI a) (pI b) = _
    rw [zipP_pI a b]; rfl
def fs_combine : FSp := fun ds Q => ∃ (t1 t2 t3 : Bool) (w : Nat) (rows : List (List Int)) (fs : List Int), ds = [.sh (sq t1 (pR t3 rows)), .sh (sq t2 (pI fs)), .sh (.int (w : Int))] ∧ CIn w rows fs ∧ Q (.sh (.tup (pI (combF w rows fs)))) ds
theorem ok_combine {Pg : Program} {w : World} {K : PySem.W.Frag} {mg : Str → Option Value} {base : Heap} {a : Addr} {fd : FuncData} (F : L2.Fun K "combine" "combine" s_combine a fd)
    (m_zip : mg "zip" = none)
    (m_tuple : mg "tuple" = none)
    (m_range : mg "range" = none) :
    FnOk Pg w K mg base CX0 1 a fd ["rows", "factors", "width"] (spD K fs_combine) := by
  refine Fun.okD [] F sc_combine (fun ds QD h => ?_) (fun cdv A outer s H E hr => ⟨_, _, (dss_cons (ds_setLcP (own := [("_", 4)]) (i := 3) (n := 9) rfl sc_combine.nd rfl rfl (sw_true rfl rfl rfl (by decide +kernel)) (by decide) (di_rng1 (fun h => pi_range1 (by rfl) m_range h) (da_cons (de_v 2 (pv 2)) da_nil)) (blkOk_by (N := ["rows", "factors", "width", "total", "_", "row", "factor", "entry", "more"]) (sc := defScope s_combine) (own := [("_", 4)]) (by decide +kernel)) (fun _ _ _ _ _ => (dg_name (pg_name (i := 4) sc_combine.nd rfl (by first | exact .inl rfl | exact .inr rfl)))) (fun _ _ _ _ _ => dts_nil) (fun _ _ _ _ _ => de_int))
    (dss_cons (ds_for PassesOwn.never rfl (di_zip (by rfl) m_zip (da_cons (de_v 0 (pv 0)) (da_cons (de_v 1 (pv 1)) da_nil))) (dg_seq (fun h => pg_tup rfl h) (fun h => pg_unl rfl h) (dgs_cons (dg_name (pg_name (i := 5) sc_combine.nd rfl (by first | exact .inl rfl | exact .inr rfl))) (dgs_cons (dg_name (pg_name (i := 6) sc_combine.nd rfl (by first | exact .inl rfl | exact .inr rfl))) dgs_nil)))
    (dss_one (ds_if (dt_cmp op_ne os_ne (de_v 6 (pv 6)) de_int (nomark _))
    (dss_one (ds_setLcP (own := [("entry", 7), ("more", 8)]) (i := 3) (n := 9) rfl sc_combine.nd rfl rfl (sw_true rfl rfl rfl (by decide +kernel)) (by decide) (di_zip (by rfl) m_zip (da_cons (de_vF 3 (pv 3)) (da_cons (de_v 5 (pv 5)) da_nil))) (blkOk_by (N := ["rows", "factors", "width", "total", "_", "row", "factor", "entry", "more"]) (sc := defScope s_combine) (own := [("entry", 7), ("more", 8)]) (by decide +kernel)) (fun _ _ _ _ _ => (dg_seq (fun h => pg_tup rfl h) (fun h => pg_unl rfl h) (dgs_cons (dg_name (pg_name (i := 7) sc_combine.nd rfl (by first | exact .inl rfl | exact .inr rfl))) (dgs_cons (dg_name (pg_name (i := 8) sc_combine.nd rfl (by first | exact .inl rfl | exact .inr rfl))) dgs_nil)))) (fun _ _ _ _ _ => dts_nil) (fun _ _ _ _ _ => (de_op op_add os_add (de_v 7 (pv 7)) (de_op op_mulW os_mul (de_v 6 (pv 6)) (de_v 8 (pv 8)))))))
    dss_nil)))
    (dss_one (ds_ret (de_cb (fun h => pe_callTy call_tuple_of (by rfl) m_tuple (by decide +kernel) h) cs_tuple (da_cons (de_vF 3 (pv 3)) da_nil)))))), fun ds QD h => ?_⟩)
  · first
      | (obtain ⟨rfl, _⟩ := h; exact ⟨rfl, rfl⟩)
      | (obtain ⟨_, rfl, _⟩ := h; exact ⟨rfl, rfl⟩)
      | (obtain ⟨_, _, rfl, _⟩ := h; exact ⟨rfl, rfl⟩)
      | (obtain ⟨_, _, _, rfl, _⟩ := h; exact ⟨rfl, rfl⟩)
      | (obtain ⟨_, _, _, _, rfl, _⟩ := h; exact ⟨rfl, rfl⟩)
      | (obtain ⟨_, _, _, _, _, rfl, _⟩ := h; exact ⟨rfl, rfl⟩)
      | (obtain ⟨_, _, _, _, _, _, rfl, _⟩ := h; exact ⟨rfl, rfl⟩)
      | (obtain ⟨_, _, _, _, _, _, _, rfl, _⟩ := h; exact ⟨rfl, rfl⟩)
      | (obtain ⟨_, _, _, _, _, _, _, _, rfl, _⟩ := h; exact ⟨rfl, rfl⟩)
      | (obtain ⟨_, _, _, _, _, _, _, _, _, rfl, _⟩ := h; exact ⟨rfl, rfl⟩)
      | (obtain ⟨_, _, _, _, _, _, _, _, _, _, rfl, _⟩ := h; exact ⟨rfl, rfl⟩)
      | (obtain ⟨_, _, _, _, _, _, _, _, _, _, _, rfl, _⟩ := h; exact ⟨rfl, rfl⟩)
  · obtain ⟨t1, t2, t3, w, rows, fs, rfl, c, q⟩ := h
    have hw := c.hw
    have hn := c.hn
    walk_at "go"
    refine ⟨fun i acc => acc = pI (List.replicate i 0), rfl, fun i p acc hp hI => ?_, fun acc hI => ?_⟩
    · subst hI
      obtain ⟨hi, rfl⟩ := rngP_get hp
      have hi' : i < w := by simpa using hi
      walk_at "go"
      refine ⟨fun _ => ?_, fun h => Bool.noConfusion h⟩
      walk_at "go"
      refine ⟨?_, ?_⟩
      · show (pI (List.replicate i 0)).length < sizeLine
        rw [sizeLine_eq, List.length_map, List.length_replicate]
        omega
      · show pI (List.replicate i 0) ++ [P.int 0] = pI (List.replicate (i + 1) 0)
        rw [List.replicate_succ', pI, pI, List.map_append]; rfl
    subst hI
    rw [rngP_len]
    have ew : (w : Int).toNat = w := Int.toNat_natCast w
    rw [ew]
    walk_at "go"
    rw [pseq_sq, pseq_sq]
    conv => whnf
    refine ⟨fun i env => ∃ rv fv u, env = [some (.sh (sq t1 (pR t3 rows))), some (.sh (sq t2 (pI fs))), some (.sh (.int (w : Int))), some (.ol (pI (combN w rows fs i))), u, rv, fv, none, none], ⟨none, none, none, rfl⟩, fun i p e hp hI => ?_, fun e hI => ?_⟩
    · obtain ⟨rv, fv, u, rfl⟩ := hI
      obtain ⟨p1, p2, h1, h2, rfl⟩ := zipP_get hp
      obtain ⟨r, hr, rfl⟩ := map_get h1
      obtain ⟨f, hf, rfl⟩ := map_get h2
      have hi := lt_of_get hr
      have hr2 := c.len r (List.mem_of_getElem? hr)
      have e1 : combN w rows fs (i + 1) = stepC (combN w rows fs i) r f := by
        show stepC _ (rows.getD i []) (fs.getD i 0) = _
        rw [getD_of hr, getD_of hf]
      walk_at "go"
      refine ⟨fun hne => ?_, fun hne => ?_⟩
      rotate_left
      · have hz : f = 0 := by simpa using hne
        walk_at "go"
        have e2 : combN w rows fs (i + 1) = combN w rows fs i := by
          rw [e1, hz]
          apply List.ext_getElem?
          intro j
          have l1 := combN_len c i (by omega)
          by_cases hj : j < w
          · rw [stepC, List.getElem?_map, List.getElem?_eq_getElem (by rw [List.length_zip]; omega), List.getElem?_eq_getElem (by omega)]
            simp
          · rw [List.getElem?_eq_none (by rw [stepC, List.length_map, List.length_zip]; omega), List.getElem?_eq_none (by omega)]
        rw [e2]
        exact ⟨_, _, u, rfl⟩
      walk_at "go"
      rw [pseq_sq]
      walk_at "go"
      refine ⟨fun j acc => acc = pI ((combN w rows fs (i + 1)).take j), rfl, fun j p acc hp2 hI => ?_, fun acc hI => ?_⟩
      · subst hI
        obtain ⟨p3, p4, h3, h4, rfl⟩ := zipP_get hp2
        obtain ⟨x, hx, rfl⟩ := map_get h3
        obtain ⟨y, hy, rfl⟩ := map_get h4
        have hj := lt_of_get hy
        walk_at "go"
        refine ⟨fun _ => ?_, fun h => Bool.noConfusion h⟩
        walk_at "go"
        refine ⟨sm_mul (c.sf f (List.mem_of_getElem? hf)) (c.sr r (List.mem_of_getElem? hr) y (List.mem_of_getElem? hy)), ?_⟩
        walk_at "go"
        rw [e1]
        exact (take_map (f := P.int) (stepC_get hx hy)).symm
      · subst hI
        have e2 : (zipP (pI (combN w rows fs i)) (pI r)).length = (combN w rows fs (i + 1)).length := by
          rw [zipP_len, List.length_map, List.length_map, combN_len c i (by omega), combN_len c (i + 1) hi, hr2, Nat.min_self]
        rw [e2, List.take_length]
        exact ⟨rfl, _, _, _, rfl⟩
    · obtain ⟨rv, fv, u, rfl⟩ := hI
      rw [zipP_len, List.length_map, List.length_map, c.fl, Nat.min_self]
      exact ⟨rfl, q⟩
/-! ### total_of -/
abbrev s_total_of : Stmt := topS 3
theorem sc_total_of : FnScope ["coefs", "row", "coef", "entry"] ["coefs", "row"] (defScope s_total_of) := ⟨rfl, rfl, rfl, by decide +kernel, rfl, by decide +kernel, by decide +kernel⟩
theorem mulz_get {t r : List Int} {x y : Int} {j : Nat} (h1 : t[j]? = some x) (h2 : r[j]? = some y) : ((t.zip r).map fun q => q.1 * q.2)[j]? = some (x * y) := by
  rw [List.getElem?_map, (List.getElem?_zip_eq_some (z := (x, y))).mpr ⟨h1, h2⟩]; rfl
def fs_total_of : FSp := fun ds Q => ∃ (t1 t2 : Bool) (cs rs : List Int), ds = [.sh (sq t1 (pI cs)), .sh (sq t2 (pI rs))] ∧ (cs.length = rs.length ∧ cs.length ≤ 1000) ∧ (∀ x ∈ cs, Sm x) ∧ (∀ x ∈ rs, Sm x) ∧ Q (.sh (.int ((cs.zip rs).map fun q => q.1 * q.2).sum)) ds
theorem ok_total_of {Pg : Program} {w : World} {K : PySem.W.Frag} {mg : Str → Option Value} {base : Heap} {a : Addr} {fd : FuncData} (F : L2.Fun K "total_of" "total_of" s_total_of a fd)
    (m_sum : mg "sum" = none)
    (m_zip : mg "zip" = none) :
    FnOk Pg w K mg base CX0 1 a fd ["coefs", "row"] (spD K fs_total_of) := by
  refine Fun.okD [] F sc_total_of (fun ds QD h => ?_) (fun cdv A outer s H E hr => ⟨_, _, (dss_one (ds_ret (de_cb (fun h => pe_callB (cr_sum rfl) (by rfl) m_sum (by decide +kernel) h) cs_sum (da_cons (de_o (do_lcP (own := [("coef", 2), ("entry", 3)]) (n := 4) rfl sc_total_of.nd (di_zip (by rfl) m_zip (da_cons (de_v 0 (pv 0)) (da_cons (de_v 1 (pv 1)) da_nil))) (blkOk_by (N := ["coefs", "row", "coef", "entry"]) (sc := defScope s_total_of) (own := [("coef", 2), ("entry", 3)]) (by decide +kernel)) (fun _ _ _ _ _ => (dg_seq (fun h => pg_tup rfl h) (fun h => pg_unl rfl h) (dgs_cons (dg_name (pg_name (i := 2) sc_total_of.nd rfl (by first | exact .inl rfl | exact .inr rfl))) (dgs_cons (dg_name (pg_name (i := 3) sc_total_of.nd rfl (by first | exact .inl rfl | exact .inr rfl))) dgs_nil)))) (fun _ _ _ _ _ => dts_nil) (fun _ _ _ _ _ => (de_op op_mulW os_mul (de_v 2 (pv 2)) (de_v 3 (pv 3)))))) da_nil)))), fun ds QD h => ?_⟩)
  · first
      | (obtain ⟨rfl, _⟩ := h; exact ⟨rfl, rfl⟩)
      | (obtain ⟨_, rfl, _⟩ := h; exact ⟨rfl, rfl⟩)
      | (obtain ⟨_, _, rfl, _⟩ := h; exact ⟨rfl, rfl⟩)
      | (obtain ⟨_, _, _, rfl, _⟩ := h; exact ⟨rfl, rfl⟩)
      | (obtain ⟨_, _, _, _, rfl, _⟩ := h; exact ⟨rfl, rfl⟩)
      | (obtain ⟨_, _, _, _, _, rfl, _⟩ := h; exact ⟨rfl, rfl⟩)
      | (obtain ⟨_, _, _, _, _, _, rfl, _⟩ := h; exact ⟨rfl, rfl⟩)
      | (obtain ⟨_, _, _, _, _, _, _, rfl, _⟩ := h; exact ⟨rfl, rfl⟩)
      | (obtain ⟨_, _, _, _, _, _, _, _, rfl, _⟩ := h; exact ⟨rfl, rfl⟩)
      | (obtain ⟨_, _, _, _, _, _, _, _, _, rfl, _⟩ := h; exact ⟨rfl, rfl⟩)
      | (obtain ⟨_, _, _, _, _, _, _, _, _, _, rfl, _⟩ := h; exact ⟨rfl, rfl⟩)
      | (obtain ⟨_, _, _, _, _, _, _, _, _, _, _, rfl, _⟩ := h; exact ⟨rfl, rfl⟩)
  · obtain ⟨t1, t2, cs, rs, rfl, ⟨hl, hl2⟩, s1, s2, q⟩ := h
    walk_at "go"
    rw [pseq_sq, pseq_sq]
    walk_at "go"
    refine ⟨fun j acc => acc = pI (((cs.zip rs).map fun q => q.1 * q.2).take j), rfl, fun j p acc hp hI => ?_, fun acc hI => ?_⟩
    · subst hI
      obtain ⟨p3, p4, h3, h4, rfl⟩ := zipP_get hp
      obtain ⟨x, hx, rfl⟩ := map_get h3
      obtain ⟨y, hy, rfl⟩ := map_get h4
      have hj := lt_of_get hx
      walk_at "go"
      refine ⟨fun _ => ?_, fun h => Bool.noConfusion h⟩
      walk_at "go"
      refine ⟨sm_mul (s1 x (List.mem_of_getElem? hx)) (s2 y (List.mem_of_getElem? hy)), ?_⟩
      walk_at "go"
      exact (take_map (f := P.int) (mulz_get hx hy)).symm
    · subst hI
      have e2 : (zipP (pI cs) (pI rs)).length = ((cs.zip rs).map fun q => q.1 * q.2).length := by
        rw [zipP_len, List.length_map, List.length_map, List.length_map, List.length_zip]
      rw [e2, List.take_length]
      walk_at "go"
      rw [DL.ints_map]
      exact ⟨rfl, q⟩
/-! ### _law_cell -/
abbrev s__law_cell : Stmt := topS 6
theorem sc__law_cell : FnScope ["script", "k"] ["script", "k"] (defScope s__law_cell) := ⟨rfl, rfl, rfl, by decide +kernel, rfl, by decide +kernel, by decide +kernel⟩
def fs__law_cell : FSp := fun ds Q => ∃ (ns : List Int) (k : Nat), ds = [.sh (.rol (pI ns)), .sh (.int (k : Int))] ∧ Q (.sh (.int (ns.getD k 0))) ds
theorem ok__law_cell {Pg : Program} {w : World} {K : PySem.W.Frag} {mg : Str → Option Value} {base : Heap} {a : Addr} {fd : FuncData} (F : L2.Fun K "_law_cell" "_law_cell" s__law_cell a fd)
    (m_len : mg "len" = none)
    (m_int : mg "int" = none) :
    FnOk Pg w K mg base CX0 1 a fd ["script", "k"] (spD K fs__law_cell) := by
  refine Fun.okD [] F sc__law_cell (fun ds QD h => ?_) (fun cdv A outer s H E hr => ⟨_, _, (dss_cons (ds_if (dt_cmp op_lt os_lt (de_v 1 (pv 1)) (de_cb (fun h => pe_callB call_len (by rfl) m_len PySem.boot_len h) cs_len (da_cons (de_v 0 (pv 0)) da_nil)) (nomark _))
    (dss_one (ds_ret (de_cb (fun h => pe_callTy call_int1 (by rfl) m_int (by decide +kernel) h) cs_int (da_cons (de_ix ix_seq os_ix (de_v 0 (pv 0)) (de_v 1 (pv 1))) da_nil))))
    dss_nil)
    (dss_one (ds_ret de_int))), fun ds QD h => ?_⟩)
  · first
      | (obtain ⟨rfl, _⟩ := h; exact ⟨rfl, rfl⟩)
      | (obtain ⟨_, rfl, _⟩ := h; exact ⟨rfl, rfl⟩)
      | (obtain ⟨_, _, rfl, _⟩ := h; exact ⟨rfl, rfl⟩)
      | (obtain ⟨_, _, _, rfl, _⟩ := h; exact ⟨rfl, rfl⟩)
      | (obtain ⟨_, _, _, _, rfl, _⟩ := h; exact ⟨rfl, rfl⟩)
      | (obtain ⟨_, _, _, _, _, rfl, _⟩ := h; exact ⟨rfl, rfl⟩)
      | (obtain ⟨_, _, _, _, _, _, rfl, _⟩ := h; exact ⟨rfl, rfl⟩)
      | (obtain ⟨_, _, _, _, _, _, _, rfl, _⟩ := h; exact ⟨rfl, rfl⟩)
      | (obtain ⟨_, _, _, _, _, _, _, _, rfl, _⟩ := h; exact ⟨rfl, rfl⟩)
      | (obtain ⟨_, _, _, _, _, _, _, _, _, rfl, _⟩ := h; exact ⟨rfl, rfl⟩)
      | (obtain ⟨_, _, _, _, _, _, _, _, _, _, rfl, _⟩ := h; exact ⟨rfl, rfl⟩)
      | (obtain ⟨_, _, _, _, _, _, _, _, _, _, _, rfl, _⟩ := h; exact ⟨rfl, rfl⟩)
  · obtain ⟨ns, k, rfl, q⟩ := h
    conv => whnf
    refine ⟨fun e => ?_, fun e => ?_⟩
    · conv => whnf
      have hk : k < ns.length := by
        have := of_decide_eq_true e
        simp only [List.length_map] at this
        omega
      refine ⟨_, atI_map hk, ?_⟩
      refine ⟨rfl, ?_⟩
      rw [show ns.getD k 0 = ns[k] by rw [List.getD_eq_getElem?_getD, List.getElem?_eq_getElem hk]; rfl] at q
      exact q
    · have hk : ¬ k < ns.length := by
        have := of_decide_eq_false e
        simp only [List.length_map] at this
        omega
      rw [show ns.getD k 0 = 0 by rw [List.getD_eq_getElem?_getD, List.getElem?_eq_none (by omega)]; rfl] at q
      exact ⟨rfl, q⟩
/-! ### _law_draws -/
abbrev s__law_draws : Stmt := topS 7
theorem sc__law_draws : FnScope ["cell", "many", "rest", "large", "seed", "found", "k"] ["cell", "many"] (defScope s__law_draws) := ⟨rfl, rfl, rfl, by decide +kernel, rfl, by decide +kernel, by decide +kernel⟩
/-- one draw: the seed, what is left of the cell, the draws -/
def dstep (large : Bool) (i : Nat) (s : Int × Int × List Int) : Int × Int × List Int :=
  let seed := (s.1 * 48271 + 40692 * (i : Int) + 69621) % 2147483647
  if large = true ∧ 0 < s.2.1 then (seed, s.2.1 / 1000000, s.2.2 ++ [s.2.1 % 1000000])
  else (seed, s.2.1, s.2.2 ++ [((seed * 16807 + 7919 * (i : Int)) % 2147483629 / 1009) % 1000000])
def dst (large : Bool) (seed rest : Int) : Nat → Int × Int × List Int
  | 0 => (seed, rest, [])
  | i + 1 => dstep large i (dst large seed rest i)
def absI (c : Int) : Int := if c < 0 then -c else c
def drawsF (c : Int) (many : Nat) : List Int := (dst (decide (10 ^ 18 ≤ absI c)) (absI c % 2147483647) (absI c) many).2.2
theorem absI_nn (c : Int) : 0 ≤ absI c := by unfold absI; split <;> omega
structure DOk (i : Nat) (s : Int × Int × List Int) : Prop where
  s0 : 0 ≤ s.1
  s1 : s.1 < 2147483648
  r0 : 0 ≤ s.2.1
  len : s.2.2.length = i
  rg : ∀ d ∈ s.2.2, 0 ≤ d ∧ d < 1000000
theorem dstep_ok {large : Bool} {i : Nat} {s : Int × Int × List Int} (h : DOk i s) : DOk (i + 1) (dstep large i s) := by
  unfold dstep
  have e0 : 0 ≤ (s.1 * 48271 + 40692 * (i : Int) + 69621) % 2147483647 := Int.emod_nonneg _ (by decide)
  have e1 : (s.1 * 48271 + 40692 * (i : Int) + 69621) % 2147483647 < 2147483647 := Int.emod_lt_of_pos _ (by decide)
  dsimp only
  split
  · refine ⟨e0, by omega, Int.ediv_nonneg h.r0 (by decide), by rw [List.length_append, h.len]; rfl, fun d hd => ?_⟩
    rcases List.mem_append.mp hd with hd | hd
    · exact h.rg d hd
    · rw [List.mem_singleton.mp hd]
      exact ⟨Int.emod_nonneg _ (by decide), Int.emod_lt_of_pos _ (by decide)⟩
  · refine ⟨e0, by omega, h.r0, by rw [List.length_append, h.len]; rfl, fun d hd => ?_⟩
    rcases List.mem_append.mp hd with hd | hd
    · exact h.rg d hd
    · rw [List.mem_singleton.mp hd]
      exact ⟨Int.emod_nonneg _ (by decide), Int.emod_lt_of_pos _ (by decide)⟩
theorem dst_ok {large : Bool} {seed rest : Int} (h0 : 0 ≤ seed) (h1 : seed < 2147483648) (h2 : 0 ≤ rest) : ∀ i, DOk i (dst large seed rest i)
  | 0 => ⟨h0, h1, h2, rfl, fun d hd => absurd hd List.not_mem_nil⟩
  | i + 1 => dstep_ok (dst_ok h0 h1 h2 i)
theorem draws_ok (c : Int) (many : Nat) : DOk many (dst (decide (10 ^ 18 ≤ absI c)) (absI c % 2147483647) (absI c) many) :=
  dst_ok (Int.emod_nonneg _ (by decide)) (by have := Int.emod_lt_of_pos (absI c) (show (0 : Int) < 2147483647 by decide); omega) (absI_nn c) many
theorem drawsF_len (c : Int) (many : Nat) : (drawsF c many).length = many := (draws_ok c many).len
theorem drawsF_rg (c : Int) (many : Nat) : ∀ d ∈ drawsF c many, 0 ≤ d ∧ d < 1000000 := (draws_ok c many).rg
def fs__law_draws : FSp := fun ds Q => ∃ (c : Int) (many : Nat), ds = [.sh (.int c), .sh (.int (many : Int))] ∧ many ≤ 100000 ∧ Q (.ol (pI (drawsF c many))) ds
theorem ok__law_draws {Pg : Program} {w : World} {K : PySem.W.Frag} {mg : Str → Option Value} {base : Heap} {a : Addr} {fd : FuncData} (F : L2.Fun K "_law_draws" "_law_draws" s__law_draws a fd)
    (m_abs : mg "abs" = none)
    (m_range : mg "range" = none)
    (m_int : mg "int" = none) :
    FnOk Pg w K mg base CX0 1 a fd ["cell", "many"] (spD K fs__law_draws) := by
  refine Fun.okD [] F sc__law_draws (fun ds QD h => ?_) (fun cdv A outer s H E hr => ⟨_, _, (dss_cons (ds_asg (de_cb (fun h => pe_callB call_abs (by rfl) m_abs (by decide +kernel) h) cs_abs (da_cons (de_cb (fun h => pe_callTy call_int1 (by rfl) m_int (by decide +kernel) h) cs_int (da_cons (de_v 0 (pv 0)) da_nil)) da_nil)) (dg_name (pg_name (i := 2) sc__law_draws.nd rfl (by first | exact .inl rfl | exact .inr rfl))))
    (dss_cons (ds_asg (de_cmp op_ge os_ge (de_v 2 (pv 2)) (de_op op_pow os_pow de_int de_int) (nomark _)) (dg_name (pg_name (i := 3) sc__law_draws.nd rfl (by first | exact .inl rfl | exact .inr rfl))))
    (dss_cons (ds_asg (de_op op_mod os_mod (de_cb (fun h => pe_callTy call_int1 (by rfl) m_int (by decide +kernel) h) cs_int (da_cons (de_v 2 (pv 2)) da_nil)) de_int) (dg_name (pg_name (i := 4) sc__law_draws.nd rfl (by first | exact .inl rfl | exact .inr rfl))))
    (dss_cons (ds_put (do_lst da_nil) (pg_name (i := 5) sc__law_draws.nd rfl (by first | exact .inl rfl | exact .inr rfl)))
    (dss_cons (ds_for PassesOwn.never rfl (di_rng1 (fun h => pi_range1 (by rfl) m_range h) (da_cons (de_v 1 (pv 1)) da_nil)) (dg_name (pg_name (i := 6) sc__law_draws.nd rfl (by first | exact .inl rfl | exact .inr rfl)))
    (dss_cons (ds_asg (de_op op_mod os_mod (de_cb (fun h => pe_callTy call_int1 (by rfl) m_int (by decide +kernel) h) cs_int (da_cons (de_op op_add os_add (de_op op_add os_add (de_op op_mulW os_mul (de_v 4 (pv 4)) de_int) (de_op op_mulW os_mul de_int (de_v 6 (pv 6)))) de_int) da_nil)) de_int) (dg_name (pg_name (i := 4) sc__law_draws.nd rfl (by first | exact .inl rfl | exact .inr rfl))))
    (dss_one (ds_if (DW.pt (dw_and (dt_tru (de_v 3 (pv 3))) (dw_and1 (dt_cmp op_gt os_gt (de_v 2 (pv 2)) de_int (nomark _)))))
    (dss_cons (ds_app (fun h => pe_bm PySem.F.plainAttrs_list PySem.F.slot_list_append PySem.F.type_list_append mt_append (pv 5) h) (de_op op_mod os_mod (de_cb (fun h => pe_callTy call_int1 (by rfl) m_int (by decide +kernel) h) cs_int (da_cons (de_v 2 (pv 2)) da_nil)) de_int))
    (dss_one (ds_asg (de_op op_fdivW os_div (de_v 2 (pv 2)) de_int) (dg_name (pg_name (i := 2) sc__law_draws.nd rfl (by first | exact .inl rfl | exact .inr rfl))))))
    (dss_one (ds_app (fun h => pe_bm PySem.F.plainAttrs_list PySem.F.slot_list_append PySem.F.type_list_append mt_append (pv 5) h) (de_op op_mod os_mod (de_cb (fun h => pe_callTy call_int1 (by rfl) m_int (by decide +kernel) h) cs_int (da_cons (de_op op_fdivW os_div (de_op op_mod os_mod (de_cb (fun h => pe_callTy call_int1 (by rfl) m_int (by decide +kernel) h) cs_int (da_cons (de_op op_add os_add (de_op op_mulW os_mul (de_v 4 (pv 4)) de_int) (de_op op_mulW os_mul de_int (de_v 6 (pv 6)))) da_nil)) de_int) de_int) da_nil)) de_int)))))))
    (dss_one (ds_retV 5 (pv 5)))))))), fun ds QD h => ?_⟩)
  · first
      | (obtain ⟨rfl, _⟩ := h; exact ⟨rfl, rfl⟩)
      | (obtain ⟨_, rfl, _⟩ := h; exact ⟨rfl, rfl⟩)
      | (obtain ⟨_, _, rfl, _⟩ := h; exact ⟨rfl, rfl⟩)
      | (obtain ⟨_, _, _, rfl, _⟩ := h; exact ⟨rfl, rfl⟩)
      | (obtain ⟨_, _, _, _, rfl, _⟩ := h; exact ⟨rfl, rfl⟩)
      | (obtain ⟨_, _, _, _, _, rfl, _⟩ := h; exact ⟨rfl, rfl⟩)
      | (obtain ⟨_, _, _, _, _, _, rfl, _⟩ := h; exact ⟨rfl, rfl⟩)
      | (obtain ⟨_, _, _, _, _, _, _, rfl, _⟩ := h; exact ⟨rfl, rfl⟩)
      | (obtain ⟨_, _, _, _, _, _, _, _, rfl, _⟩ := h; exact ⟨rfl, rfl⟩)
      | (obtain ⟨_, _, _, _, _, _, _, _, _, rfl, _⟩ := h; exact ⟨rfl, rfl⟩)
      | (obtain ⟨_, _, _, _, _, _, _, _, _, _, rfl, _⟩ := h; exact ⟨rfl, rfl⟩)
      | (obtain ⟨_, _, _, _, _, _, _, _, _, _, _, rfl, _⟩ := h; exact ⟨rfl, rfl⟩)
  · obtain ⟨c, many, rfl, hm, q⟩ := h
    have hz : sizeLine = 16777216 := sizeLine_eq
    conv => whnf
    refine And.intro rfl ?_
    conv => whnf
    refine And.intro ⟨by decide, by decide, by decide⟩ ?_
    walk_at "go"
    refine ⟨fun i env => ∃ kv, env = [some (.sh (.int c)), some (.sh (.int many)), some (.sh (.int (dst (decide (10 ^ 18 ≤ absI c)) (absI c % 2147483647) (absI c) i).2.1)), some (.sh (.bl (decide (10 ^ 18 ≤ absI c)))),
      some (.sh (.int (dst (decide (10 ^ 18 ≤ absI c)) (absI c % 2147483647) (absI c) i).1)), some (.ol (pI (dst (decide (10 ^ 18 ≤ absI c)) (absI c % 2147483647) (absI c) i).2.2)), kv], ⟨none, rfl⟩, fun i p e hp hI => ?_, fun e hI => ?_⟩
    · obtain ⟨kv, rfl⟩ := hI
      obtain ⟨hi, rfl⟩ := rngP_get hp
      have hi' : i < many := by simpa using hi
      have d0 := draws_ok c i
      revert d0
      generalize hd : dst (decide (10 ^ 18 ≤ absI c)) (absI c % 2147483647) (absI c) i = st
      intro d0
      have s0 := d0.s0
      have s1 := d0.s1
      have r0 := d0.r0
      have ln := d0.len
      walk_at "go"
      refine ⟨fun hl => ?_, fun hl => ?_⟩
      · walk_at "go"
        refine ⟨fun hg => ?_, fun hg => ?_⟩
        · have hg' : 0 < st.2.1 := of_decide_eq_true hg
          walk_at "go"
          refine ⟨some (.sh (.int (0 + (i : Int)))), ?_⟩
          have e1 : dst (decide (10 ^ 18 ≤ absI c)) (absI c % 2147483647) (absI c) (i + 1) = dstep (decide (10 ^ 18 ≤ absI c)) i st := by rw [← hd]; rfl
          rw [e1, show dstep (decide (10 ^ 18 ≤ absI c)) i st = _ from if_pos ⟨hl, hg'⟩]
          simp only [pI, List.map_append, List.map_cons, List.map_nil, Int.zero_add]
          rfl
        · have hg' : ¬ 0 < st.2.1 := of_decide_eq_false hg
          walk_at "go"
          refine ⟨some (.sh (.int (0 + (i : Int)))), ?_⟩
          have e1 : dst (decide (10 ^ 18 ≤ absI c)) (absI c % 2147483647) (absI c) (i + 1) = dstep (decide (10 ^ 18 ≤ absI c)) i st := by rw [← hd]; rfl
          rw [e1, show dstep (decide (10 ^ 18 ≤ absI c)) i st = _ from if_neg fun h => hg' h.2]
          simp only [pI, List.map_append, List.map_cons, List.map_nil, Int.zero_add]
          rfl
      · refine ⟨fun hg => Bool.noConfusion hg, fun _ => ?_⟩
        walk_at "go"
        refine ⟨some (.sh (.int (0 + (i : Int)))), ?_⟩
        have e1 : dst (decide (10 ^ 18 ≤ absI c)) (absI c % 2147483647) (absI c) (i + 1) = dstep (decide (10 ^ 18 ≤ absI c)) i st := by rw [← hd]; rfl
        rw [e1, show dstep (decide (10 ^ 18 ≤ absI c)) i st = _ from if_neg fun h => by rw [hl] at h; exact Bool.noConfusion h.1]
        simp only [pI, List.map_append, List.map_cons, List.map_nil, Int.zero_add]
        rfl
    · obtain ⟨kv, rfl⟩ := hI
      rw [rngP_len]
      exact ⟨rfl, q⟩
/-! ### _law_take -/
abbrev s__law_take : Stmt := topS 8
theorem sc__law_take : FnScope ["draws", "place"] ["draws", "place"] (defScope s__law_take) := ⟨rfl, rfl, rfl, by decide +kernel, rfl, by decide +kernel, by decide +kernel⟩
def fs__law_take : FSp := fun ds Q => ∃ (rs : List Int) (k : Nat), ds = [.sh (.lst (pI rs)), .ol [.int (k : Int)]] ∧ Q (.sh (.int (rs.getD k 0))) [.sh (.lst (pI rs)), .ol [.int ((k + 1 : Nat) : Int)]]
theorem ok__law_take {Pg : Program} {w : World} {K : PySem.W.Frag} {mg : Str → Option Value} {base : Heap} {a : Addr} {fd : FuncData} (F : L2.Fun K "_law_take" "_law_take" s__law_take a fd)
    (m_len : mg "len" = none) :
    FnOk Pg w K mg base CX0 1 a fd ["draws", "place"] (spD K fs__law_take) := by
  refine Fun.okD [1] F sc__law_take (fun ds QD h => ?_) (fun cdv A outer s H E hr => ⟨_, _, (dss_cons (ds_setI (fun h => pg_sub (pv 1) h set_list) de_int (de_op op_add os_add (de_itm 1 (fun h => pe_ix ix_list (pv 1) h (fun _ _ => rfl)) de_int) de_int))
    (dss_cons (ds_if (dt_cmp op_gt os_gt (de_itm 1 (fun h => pe_ix ix_list (pv 1) h (fun _ _ => rfl)) de_int) (de_cb (fun h => pe_callB call_len (by rfl) m_len PySem.boot_len h) cs_len (da_cons (de_v 0 (pv 0)) da_nil)) (nomark _))
    (dss_one (ds_ret de_int))
    dss_nil)
    (dss_one (ds_ret (de_ix ix_seq os_ix (de_v 0 (pv 0)) (de_op op_sub os_sub (de_itm 1 (fun h => pe_ix ix_list (pv 1) h (fun _ _ => rfl)) de_int) de_int)))))), fun ds QD h => ?_⟩)
  · first
      | (obtain ⟨rfl, _⟩ := h; exact ⟨rfl, rfl⟩)
      | (obtain ⟨_, rfl, _⟩ := h; exact ⟨rfl, rfl⟩)
      | (obtain ⟨_, _, rfl, _⟩ := h; exact ⟨rfl, rfl⟩)
      | (obtain ⟨_, _, _, rfl, _⟩ := h; exact ⟨rfl, rfl⟩)
      | (obtain ⟨_, _, _, _, rfl, _⟩ := h; exact ⟨rfl, rfl⟩)
      | (obtain ⟨_, _, _, _, _, rfl, _⟩ := h; exact ⟨rfl, rfl⟩)
      | (obtain ⟨_, _, _, _, _, _, rfl, _⟩ := h; exact ⟨rfl, rfl⟩)
      | (obtain ⟨_, _, _, _, _, _, _, rfl, _⟩ := h; exact ⟨rfl, rfl⟩)
      | (obtain ⟨_, _, _, _, _, _, _, _, rfl, _⟩ := h; exact ⟨rfl, rfl⟩)
      | (obtain ⟨_, _, _, _, _, _, _, _, _, rfl, _⟩ := h; exact ⟨rfl, rfl⟩)
      | (obtain ⟨_, _, _, _, _, _, _, _, _, _, rfl, _⟩ := h; exact ⟨rfl, rfl⟩)
      | (obtain ⟨_, _, _, _, _, _, _, _, _, _, _, rfl, _⟩ := h; exact ⟨rfl, rfl⟩)
  · obtain ⟨rs, k, rfl, q⟩ := h
    walk_at "go"
    refine ⟨_, rfl, ?_⟩
    walk_at "go"
    refine ⟨0, rfl, ?_⟩
    walk_at "go"
    refine ⟨_, rfl, ?_⟩
    walk_at "go"
    have e1 : (k : Int) + 1 = ((k + 1 : Nat) : Int) := by omega
    refine ⟨fun hg => ?_, fun hg => ?_⟩
    · have hk : ¬ k < rs.length := by
        have := of_decide_eq_true hg
        simp only [pI, List.length_map] at this
        omega
      rw [show rs.getD k 0 = 0 by rw [List.getD_eq_getElem?_getD, List.getElem?_eq_none (by omega)]; rfl, ← e1] at q
      exact ⟨rfl, q⟩
    · have hk : k < rs.length := by
        have := of_decide_eq_false hg
        simp only [pI, List.length_map] at this
        omega
      walk_at "go"
      refine ⟨_, rfl, ?_⟩
      walk_at "go"
      rw [show rs.getD k 0 = rs[k] by rw [List.getD_eq_getElem?_getD, List.getElem?_eq_getElem hk]; rfl, ← e1] at q
      refine ⟨.int rs[k], ?_, ?_⟩
      · show atI (pI rs) ((k : Int) + 1 - 1) = _
        rw [show (k : Int) + 1 - 1 = (k : Int) by omega]
        exact atI_map hk
      · exact ⟨rfl, q⟩
/-! ### _law_int -/
abbrev s__law_int : Stmt := topS 9
theorem sc__law_int : FnScope ["value"] ["value"] (defScope s__law_int) := ⟨rfl, rfl, rfl, by decide +kernel, rfl, by decide +kernel, by decide +kernel⟩
def fs__law_int : FSp := fun ds Q => ∃ (i : Int), ds = [.sh (.int i)] ∧ Q (.sh (.bl true)) ds
theorem ok__law_int {Pg : Program} {w : World} {K : PySem.W.Frag} {mg : Str → Option Value} {base : Heap} {a : Addr} {fd : FuncData} (F : L2.Fun K "_law_int" "_law_int" s__law_int a fd)
    (m_isinstance : mg "isinstance" = none)
    (m_int : mg "int" = none)
    (m_bool : mg "bool" = none) :
    FnOk Pg w K mg base CX0 1 a fd ["value"] (spD K fs__law_int) := by
  refine Fun.okD [] F sc__law_int (fun ds QD h => ?_) (fun cdv A outer s H E hr => ⟨_, _, (dss_one (ds_ret (de_and (de_cb (fun h => pe_callB call_isi (by rfl) m_isinstance (by decide +kernel) h) cs_isi (da_cons (de_v 0 (pv 0)) (da_cons (de_glob (p := .ty "int") (pe_bltn (v := .ty "int") (u := .type "int") (by rfl) m_int (by decide +kernel) rfl) (fun _ => rfl)) da_nil))) (de_one (de_not (de_cb (fun h => pe_callB call_isi (by rfl) m_isinstance (by decide +kernel) h) cs_isi (da_cons (de_v 0 (pv 0)) (da_cons (de_glob (p := .ty "bool") (pe_bltn (v := .ty "bool") (u := .type "bool") (by rfl) m_bool (by decide +kernel) rfl) (fun _ => rfl)) da_nil)))))))), fun ds QD h => ?_⟩)
  · first
      | (obtain ⟨rfl, _⟩ := h; exact ⟨rfl, rfl⟩)
      | (obtain ⟨_, rfl, _⟩ := h; exact ⟨rfl, rfl⟩)
      | (obtain ⟨_, _, rfl, _⟩ := h; exact ⟨rfl, rfl⟩)
      | (obtain ⟨_, _, _, rfl, _⟩ := h; exact ⟨rfl, rfl⟩)
      | (obtain ⟨_, _, _, _, rfl, _⟩ := h; exact ⟨rfl, rfl⟩)
      | (obtain ⟨_, _, _, _, _, rfl, _⟩ := h; exact ⟨rfl, rfl⟩)
      | (obtain ⟨_, _, _, _, _, _, rfl, _⟩ := h; exact ⟨rfl, rfl⟩)
      | (obtain ⟨_, _, _, _, _, _, _, rfl, _⟩ := h; exact ⟨rfl, rfl⟩)
      | (obtain ⟨_, _, _, _, _, _, _, _, rfl, _⟩ := h; exact ⟨rfl, rfl⟩)
      | (obtain ⟨_, _, _, _, _, _, _, _, _, rfl, _⟩ := h; exact ⟨rfl, rfl⟩)
      | (obtain ⟨_, _, _, _, _, _, _, _, _, _, rfl, _⟩ := h; exact ⟨rfl, rfl⟩)
      | (obtain ⟨_, _, _, _, _, _, _, _, _, _, _, rfl, _⟩ := h; exact ⟨rfl, rfl⟩)
  · obtain ⟨i, rfl, q⟩ := h
    walk_at "go"
    refine ⟨true, by decide +kernel, ?_⟩
    walk_at "go"
    refine ⟨fun _ => ?_, fun h => Bool.noConfusion h⟩
    walk_at "go"
    refine ⟨false, by decide +kernel, ?_⟩
    exact ⟨rfl, q⟩
/-! ### _law_number -/
abbrev s__law_number : Stmt := topS 11
theorem sc__law_number : FnScope ["draw", "value", "k"] ["draw"] (defScope s__law_number) := ⟨rfl, rfl, rfl, by decide +kernel, rfl, by decide +kernel, by decide +kernel⟩
theorem pow_step {v : Int} {i : Nat} (h : 0 ≤ v ∧ v ≤ 1000 ^ (i + 1)) : 0 ≤ v * 1000 ∧ v * 1000 ≤ 1000 ^ (i + 1 + 1) := by
  rw [Int.pow_succ 1000 (i + 1)]
  omega
theorem pow_le {i : Nat} (h : i ≤ 9) : (1000 : Int) ^ (i + 1) ≤ 10 ^ 30 := by
  revert i
  decide
def fs__law_number : FSp := fun ds Q => ∃ (n : Int), ds = [.sh (.int n)] ∧ (0 ≤ n ∧ n < 1000000) ∧ ∀ v : Int, -(10 ^ 30 : Int) ≤ v ∧ v ≤ 10 ^ 30 → Q (.sh (.int v)) ds
theorem ok__law_number {Pg : Program} {w : World} {K : PySem.W.Frag} {mg : Str → Option Value} {base : Heap} {a : Addr} {fd : FuncData} (F : L2.Fun K "_law_number" "_law_number" s__law_number a fd)
    (m_range : mg "range" = none)
    (m_int : mg "int" = none) :
    FnOk Pg w K mg base CX0 1 a fd ["draw"] (spD K fs__law_number) := by
  refine Fun.okD [] F sc__law_number (fun ds QD h => ?_) (fun cdv A outer s H E hr => ⟨_, _, (dss_cons (ds_asg (de_op op_mod os_mod (de_cb (fun h => pe_callTy call_int1 (by rfl) m_int (by decide +kernel) h) cs_int (da_cons (de_op op_fdivW os_div (de_v 0 (pv 0)) de_int) da_nil)) de_int) (dg_name (pg_name (i := 1) sc__law_number.nd rfl (by first | exact .inl rfl | exact .inr rfl))))
    (dss_mid (ds_if (dt_cmp op_gt os_gt (de_v 1 (pv 1)) de_int (nomark _))
    (dss_one (ds_asg (de_op op_sub os_sub (de_v 1 (pv 1)) de_int) (dg_name (pg_name (i := 1) sc__law_number.nd rfl (by first | exact .inl rfl | exact .inr rfl)))))
    dss_nil)
    (dss_cons (ds_if (dt_cmp op_ne os_ne (de_op op_mod os_mod (de_cb (fun h => pe_callTy call_int1 (by rfl) m_int (by decide +kernel) h) cs_int (da_cons (de_v 0 (pv 0)) da_nil)) de_int) de_int (nomark _))
    (dss_one (ds_ret (de_v 1 (pv 1))))
    dss_nil)
    (dss_cons (ds_asg (de_op op_add os_add (de_op op_mod os_mod (de_cb (fun h => pe_callTy call_int1 (by rfl) m_int (by decide +kernel) h) cs_int (da_cons (de_op op_fdivW os_div (de_v 0 (pv 0)) de_int) da_nil)) de_int) de_int) (dg_name (pg_name (i := 1) sc__law_number.nd rfl (by first | exact .inl rfl | exact .inr rfl))))
    (dss_cons (ds_for PassesOwn.never rfl (di_rng1 (fun h => pi_range1 (by rfl) m_range h) (da_cons (de_op op_mod os_mod (de_cb (fun h => pe_callTy call_int1 (by rfl) m_int (by decide +kernel) h) cs_int (da_cons (de_op op_fdivW os_div (de_v 0 (pv 0)) de_int) da_nil)) de_int) da_nil)) (dg_name (pg_name (i := 2) sc__law_number.nd rfl (by first | exact .inl rfl | exact .inr rfl)))
    (dss_one (ds_asg (de_op op_mulW os_mul (de_v 1 (pv 1)) de_int) (dg_name (pg_name (i := 1) sc__law_number.nd rfl (by first | exact .inl rfl | exact .inr rfl))))))
    (dss_cons (ds_if (dt_cmp op_eq os_eq (de_op op_mod os_mod (de_cb (fun h => pe_callTy call_int1 (by rfl) m_int (by decide +kernel) h) cs_int (da_cons (de_op op_fdivW os_div (de_v 0 (pv 0)) de_int) da_nil)) de_int) de_int (nomark _))
    (dss_one (ds_ret (de_un un_neg us_neg (de_v 1 (pv 1)))))
    dss_nil)
    (dss_one (ds_ret (de_v 1 (pv 1)))))))))), fun ds QD h => ?_⟩)
  · first
      | (obtain ⟨rfl, _⟩ := h; exact ⟨rfl, rfl⟩)
      | (obtain ⟨_, rfl, _⟩ := h; exact ⟨rfl, rfl⟩)
      | (obtain ⟨_, _, rfl, _⟩ := h; exact ⟨rfl, rfl⟩)
      | (obtain ⟨_, _, _, rfl, _⟩ := h; exact ⟨rfl, rfl⟩)
      | (obtain ⟨_, _, _, _, rfl, _⟩ := h; exact ⟨rfl, rfl⟩)
      | (obtain ⟨_, _, _, _, _, rfl, _⟩ := h; exact ⟨rfl, rfl⟩)
      | (obtain ⟨_, _, _, _, _, _, rfl, _⟩ := h; exact ⟨rfl, rfl⟩)
      | (obtain ⟨_, _, _, _, _, _, _, rfl, _⟩ := h; exact ⟨rfl, rfl⟩)
      | (obtain ⟨_, _, _, _, _, _, _, _, rfl, _⟩ := h; exact ⟨rfl, rfl⟩)
      | (obtain ⟨_, _, _, _, _, _, _, _, _, rfl, _⟩ := h; exact ⟨rfl, rfl⟩)
      | (obtain ⟨_, _, _, _, _, _, _, _, _, _, rfl, _⟩ := h; exact ⟨rfl, rfl⟩)
      | (obtain ⟨_, _, _, _, _, _, _, _, _, _, _, rfl, _⟩ := h; exact ⟨rfl, rfl⟩)
  · obtain ⟨n, rfl, hn, q⟩ := h
    walk_at "go"
    refine ⟨fun env => ∃ v : Int, env = [some (.sh (.int n)), some (.sh (.int v)), none] ∧ (-10 ≤ v ∧ v ≤ 10), ?_, ?_⟩
    · walk_at "go"
      refine ⟨fun h => ?_, fun h => ?_⟩
      · walk_at "go"
        exact ⟨_, rfl, by omega⟩
      · exact ⟨_, rfl, by have := of_decide_eq_false h; omega⟩
    · rintro _ ⟨v, rfl, hv⟩
      walk_at "go"
      refine ⟨fun h => ?_, fun h => ?_⟩
      · exact ⟨rfl, q v ⟨by omega, by omega⟩⟩
      · walk_at "go"
        refine ⟨fun i env => ∃ (v : Int) (kv : _), env = [some (.sh (.int n)), some (.sh (.int v)), kv] ∧ (0 ≤ v ∧ v ≤ 1000 ^ (i + 1)), ⟨_, none, rfl, by omega, by omega⟩, fun i p e hp hI => ?_, fun e hI => ?_⟩
        · obtain ⟨v, kv, rfl, hv⟩ := hI
          obtain ⟨hi, rfl⟩ := rngP_get hp
          have hb := pow_le (i := i) (by omega)
          walk_at "go"
          refine ⟨sm_mul (sm_of (10 ^ 30) ⟨by omega, by omega⟩) (sm_of 1000 (by decide)), ?_⟩
          walk_at "go"
          exact ⟨_, _, rfl, pow_step hv⟩
        · obtain ⟨v, kv, rfl, hv⟩ := hI
          rw [rngP_len] at hv
          have hb := pow_le (i := (n / 8000 % 10).toNat) (by omega)
          walk_at "go"
          refine ⟨fun h => ?_, fun h => ?_⟩
          · exact ⟨rfl, q _ ⟨by omega, by omega⟩⟩
          · exact ⟨rfl, q _ ⟨by omega, by omega⟩⟩
/-! ### _law_combined -/
abbrev s__law_combined : Stmt := topS 14
theorem sc__law_combined : FnScope ["rows", "factors", "own_width", "total", "k", "c"] ["rows", "factors", "own_width"] (defScope s__law_combined) := ⟨rfl, rfl, rfl, by decide +kernel, rfl, by decide +kernel, by decide +kernel⟩
def fs__law_combined : FSp := fun ds Q => ∃ (w : Nat) (rows : List (List Int)) (fs : List Int), ds = [.sh (.lst (pR false rows)), .sh (.lst (pI fs)), .sh (.int (w : Int))] ∧ CIn w rows fs ∧ Q (.ol (pI (combF w rows fs))) ds
theorem ok__law_combined {Pg : Program} {w : World} {K : PySem.W.Frag} {mg : Str → Option Value} {base : Heap} {a : Addr} {fd : FuncData} (F : L2.Fun K "_law_combined" "_law_combined" s__law_combined a fd)
    (m_range : mg "range" = none)
    (m_len : mg "len" = none) :
    FnOk Pg w K mg base CX0 1 a fd ["rows", "factors", "own_width"] (spD K fs__law_combined) := by
  refine Fun.okD [] F sc__law_combined (fun ds QD h => ?_) (fun cdv A outer s H E hr => ⟨_, _, (dss_cons (ds_put (do_op op_rep oo_rep (de_o (do_lst (da_cons de_int da_nil))) (de_v 2 (pv 2))) (pg_name (i := 3) sc__law_combined.nd rfl (by first | exact .inl rfl | exact .inr rfl)))
    (dss_cons (ds_for PassesOwn.never rfl (di_rng1 (fun h => pi_range1 (by rfl) m_range h) (da_cons (de_cb (fun h => pe_callB call_len (by rfl) m_len PySem.boot_len h) cs_len (da_cons (de_v 0 (pv 0)) da_nil)) da_nil)) (dg_name (pg_name (i := 4) sc__law_combined.nd rfl (by first | exact .inl rfl | exact .inr rfl)))
    (dss_one (ds_put (do_lcP (own := [("c", 5)]) (n := 6) rfl sc__law_combined.nd (di_rng1 (fun h => pi_range1 (by rfl) m_range h) (da_cons (de_v 2 (pv 2)) da_nil)) (blkOk_by (N := ["rows", "factors", "own_width", "total", "k", "c"]) (sc := defScope s__law_combined) (own := [("c", 5)]) (by decide +kernel)) (fun _ _ _ _ _ => (dg_name (pg_name (i := 5) sc__law_combined.nd rfl (by first | exact .inl rfl | exact .inr rfl)))) (fun _ _ _ _ _ => dts_nil) (fun _ _ _ _ _ => (de_op op_add os_add (de_itm 3 (fun h => pe_ix ix_list (pv 3) h (fun _ _ => rfl)) (de_v 5 (pv 5))) (de_op op_mulW os_mul (de_ix ix_seq os_ix (de_v 1 (pv 1)) (de_v 4 (pv 4))) (de_ix ix_seq os_ix (de_ix ix_seq os_ix (de_v 0 (pv 0)) (de_v 4 (pv 4))) (de_v 5 (pv 5))))))) (pg_name (i := 3) sc__law_combined.nd rfl (by first | exact .inl rfl | exact .inr rfl)))))
    (dss_one (ds_retV 3 (pv 3))))), fun ds QD h => ?_⟩)
  · first
      | (obtain ⟨rfl, _⟩ := h; exact ⟨rfl, rfl⟩)
      | (obtain ⟨_, rfl, _⟩ := h; exact ⟨rfl, rfl⟩)
      | (obtain ⟨_, _, rfl, _⟩ := h; exact ⟨rfl, rfl⟩)
      | (obtain ⟨_, _, _, rfl, _⟩ := h; exact ⟨rfl, rfl⟩)
      | (obtain ⟨_, _, _, _, rfl, _⟩ := h; exact ⟨rfl, rfl⟩)
      | (obtain ⟨_, _, _, _, _, rfl, _⟩ := h; exact ⟨rfl, rfl⟩)
      | (obtain ⟨_, _, _, _, _, _, rfl, _⟩ := h; exact ⟨rfl, rfl⟩)
      | (obtain ⟨_, _, _, _, _, _, _, rfl, _⟩ := h; exact ⟨rfl, rfl⟩)
      | (obtain ⟨_, _, _, _, _, _, _, _, rfl, _⟩ := h; exact ⟨rfl, rfl⟩)
      | (obtain ⟨_, _, _, _, _, _, _, _, _, rfl, _⟩ := h; exact ⟨rfl, rfl⟩)
      | (obtain ⟨_, _, _, _, _, _, _, _, _, _, rfl, _⟩ := h; exact ⟨rfl, rfl⟩)
      | (obtain ⟨_, _, _, _, _, _, _, _, _, _, _, rfl, _⟩ := h; exact ⟨rfl, rfl⟩)
  · obtain ⟨w, rows, fs, rfl, c, q⟩ := h
    have hw := c.hw
    have hn := c.hn
    have el : (pR false rows).length = rows.length := List.length_map _
    walk_at "go"
    refine ⟨fun i env => ∃ kv, env = [some (.sh (.lst (pR false rows))), some (.sh (.lst (pI fs))), some (.sh (.int (w : Int))), some (.ol (pI (combN w rows fs i))), kv, none], ⟨none, by rw [rep0]; rfl⟩, fun i p e hp hI => ?_, fun e hI => ?_⟩
    · obtain ⟨kv, rfl⟩ := hI
      obtain ⟨hi, rfl⟩ := rngP_get hp
      have hi' : i < rows.length := by rw [el] at hi; simpa using hi
      obtain ⟨r, hr⟩ : ∃ r, rows[i]? = some r := ⟨_, List.getElem?_eq_getElem hi'⟩
      obtain ⟨f, hf⟩ : ∃ f, fs[i]? = some f := ⟨_, List.getElem?_eq_getElem (by rw [c.fl]; exact hi')⟩
      have hr2 := c.len r (List.mem_of_getElem? hr)
      have e1 : combN w rows fs (i + 1) = stepC (combN w rows fs i) r f := by
        show stepC _ (rows.getD i []) (fs.getD i 0) = _
        rw [getD_of hr, getD_of hf]
      walk_at "go"
      refine ⟨fun j acc => acc = pI ((combN w rows fs (i + 1)).take j), rfl, fun j p acc hp2 hI => ?_, fun acc hI => ?_⟩
      · subst hI
        obtain ⟨hj, rfl⟩ := rngP_get hp2
        have hj' : j < w := by simpa using hj
        obtain ⟨x, hx⟩ : ∃ x, (combN w rows fs i)[j]? = some x := ⟨_, List.getElem?_eq_getElem (by rw [combN_len c i (by omega)]; exact hj')⟩
        obtain ⟨y, hy⟩ : ∃ y, r[j]? = some y := ⟨_, List.getElem?_eq_getElem (by rw [hr2]; exact hj')⟩
        walk_at "go"
        refine ⟨fun _ => ?_, fun h => Bool.noConfusion h⟩
        walk_at "go"
        refine ⟨_, atI0 hx, ?_⟩
        walk_at "go"
        refine ⟨_, atI0 hf, ?_⟩
        walk_at "go"
        refine ⟨_, atI0 hr, ?_⟩
        walk_at "go"
        refine ⟨_, atI0 hy, ?_⟩
        walk_at "go"
        refine ⟨sm_mul (c.sf f (List.mem_of_getElem? hf)) (c.sr r (List.mem_of_getElem? hr) y (List.mem_of_getElem? hy)), ?_⟩
        walk_at "go"
        rw [e1]
        exact (take_map (f := P.int) (stepC_get hx hy)).symm
      · subst hI
        have e2 : (rngP 0 (w : Int).toNat).length = (combN w rows fs (i + 1)).length := by
          rw [rngP_len, combN_len c (i + 1) hi']; simp
        rw [e2, List.take_length]
        exact ⟨rfl, _, rfl⟩
    · obtain ⟨kv, rfl⟩ := hI
      rw [rngP_len, el]
      exact ⟨rfl, q⟩
/-! ### _law_handed -/
abbrev s__law_handed : Stmt := topS 15
theorem sc__law_handed : FnScope ["rows", "listed", "row"] ["rows", "listed"] (defScope s__law_handed) := ⟨rfl, rfl, rfl, by decide +kernel, rfl, by decide +kernel, by decide +kernel⟩
def fs__law_handed : FSp := fun ds Q => ∃ (t : Bool) (rows : List (List Int)), ds = [.sh (.lst (pR false rows)), .sh (.bl t)] ∧ (rows.length ≤ 1000 ∧ ∀ r ∈ rows, r.length ≤ 1000) ∧ Q (if t then .oll (rows.map pI) else .sh (.tup (pR true rows))) ds
theorem ok__law_handed {Pg : Program} {w : World} {K : PySem.W.Frag} {mg : Str → Option Value} {base : Heap} {a : Addr} {fd : FuncData} (F : L2.Fun K "_law_handed" "_law_handed" s__law_handed a fd)
    (m_tuple : mg "tuple" = none)
    (m_list : mg "list" = none) :
    FnOk Pg w K mg base CX0 1 a fd ["rows", "listed"] (spD K fs__law_handed) := by
  refine Fun.okD [] F sc__law_handed (fun ds QD h => ?_) (fun cdv A outer s H E hr => ⟨_, _, (dss_cons (ds_if (dt_tru (de_v 1 (pv 1)))
    (dss_one (ds_retO (do_lcO (own := [("row", 2)]) (n := 3) rfl sc__law_handed.nd (di_seq (de_v 0 (pv 0))) (blkOk_by (N := ["rows", "listed", "row"]) (sc := defScope s__law_handed) (own := [("row", 2)]) (by decide +kernel)) (fun _ _ _ _ _ => (dg_name (pg_name (i := 2) sc__law_handed.nd rfl (by first | exact .inl rfl | exact .inr rfl)))) (fun _ _ _ _ _ => (do_cb (fun h => pe_callTy call_list_of (by rfl) m_list (by decide +kernel) h) cs_list (da_cons (de_v 2 (pv 2)) da_nil))))))
    dss_nil)
    (dss_one (ds_retO (do_e (de_cb (fun h => pe_callTy call_tuple_of (by rfl) m_tuple (by decide +kernel) h) cs_tuple (da_cons (de_o (do_lcP (own := [("row", 2)]) (n := 3) rfl sc__law_handed.nd (di_seq (de_v 0 (pv 0))) (blkOk_by (N := ["rows", "listed", "row"]) (sc := defScope s__law_handed) (own := [("row", 2)]) (by decide +kernel)) (fun _ _ _ _ _ => (dg_name (pg_name (i := 2) sc__law_handed.nd rfl (by first | exact .inl rfl | exact .inr rfl)))) (fun _ _ _ _ _ => dts_nil) (fun _ _ _ _ _ => (de_cb (fun h => pe_callTy call_tuple_of (by rfl) m_tuple (by decide +kernel) h) cs_tuple (da_cons (de_v 2 (pv 2)) da_nil))))) da_nil)))))), fun ds QD h => ?_⟩)
  · first
      | (obtain ⟨rfl, _⟩ := h; exact ⟨rfl, rfl⟩)
      | (obtain ⟨_, rfl, _⟩ := h; exact ⟨rfl, rfl⟩)
      | (obtain ⟨_, _, rfl, _⟩ := h; exact ⟨rfl, rfl⟩)
      | (obtain ⟨_, _, _, rfl, _⟩ := h; exact ⟨rfl, rfl⟩)
      | (obtain ⟨_, _, _, _, rfl, _⟩ := h; exact ⟨rfl, rfl⟩)
      | (obtain ⟨_, _, _, _, _, rfl, _⟩ := h; exact ⟨rfl, rfl⟩)
      | (obtain ⟨_, _, _, _, _, _, rfl, _⟩ := h; exact ⟨rfl, rfl⟩)
      | (obtain ⟨_, _, _, _, _, _, _, rfl, _⟩ := h; exact ⟨rfl, rfl⟩)
      | (obtain ⟨_, _, _, _, _, _, _, _, rfl, _⟩ := h; exact ⟨rfl, rfl⟩)
      | (obtain ⟨_, _, _, _, _, _, _, _, _, rfl, _⟩ := h; exact ⟨rfl, rfl⟩)
      | (obtain ⟨_, _, _, _, _, _, _, _, _, _, rfl, _⟩ := h; exact ⟨rfl, rfl⟩)
      | (obtain ⟨_, _, _, _, _, _, _, _, _, _, _, rfl, _⟩ := h; exact ⟨rfl, rfl⟩)
  · obtain ⟨t, rows, rfl, ⟨h1, h2⟩, q⟩ := h
    have el : (pR false rows).length = rows.length := List.length_map _
    walk_at "go"
    refine ⟨fun ht => ?_, fun ht => ?_⟩
    · subst ht
      walk_at "go"
      refine ⟨fun i acc env => acc = (rows.take i).map pI ∧ env = [some (.sh (.lst (pR false rows))), some (.sh (.bl true)), none], ⟨rfl, rfl⟩, fun i p acc e hp hI => ?_, fun acc e hI => ?_⟩
      · obtain ⟨rfl, rfl⟩ := hI
        obtain ⟨r, hr, rfl⟩ := map_get hp
        have hi := lt_of_get hr
        walk_at "go"
        exact ⟨_, rfl, (take_map hr).symm, rfl⟩
      · obtain ⟨rfl, rfl⟩ := hI
        rw [el, List.take_length]
        exact ⟨rfl, q⟩
    · subst ht
      walk_at "go"
      refine ⟨fun i acc => acc = (rows.take i).map (fun r => P.tup (pI r)), rfl, fun i p acc hp hI => ?_, fun acc hI => ?_⟩
      · subst hI
        obtain ⟨r, hr, rfl⟩ := map_get hp
        have hi := lt_of_get hr
        walk_at "go"
        refine ⟨fun _ => ?_, fun h => Bool.noConfusion h⟩
        walk_at "go"
        exact (take_map (f := fun r => P.tup (pI r)) hr).symm
      · subst hI
        rw [el, List.take_length]
        exact ⟨rfl, q⟩
/-! ### keeps -/
abbrev s_keeps : Stmt := topS 4
theorem sc_keeps : FnScope ["row", "claim", "coefs", "result", "modulus", "over"] ["row", "claim"] (defScope s_keeps) := ⟨rfl, rfl, rfl, by decide +kernel, rfl, by decide +kernel, by decide +kernel⟩
def fs_keeps : FSp := fun ds Q => ∃ (t1 t2 t3 : Bool) (cs rs : List Int) (res m : Int), ds = [.sh (sq t2 (pI rs)), .sh (sq t1 [sq t3 (pI cs), .int res, .int m])] ∧ (cs.length = rs.length ∧ cs.length ≤ 1000) ∧ (∀ x ∈ cs, Sm x) ∧ (∀ x ∈ rs, Sm x) ∧ 0 ≤ m ∧
  Q (.sh (.bl (if m = 0 then decide (((cs.zip rs).map fun q => q.1 * q.2).sum - res = 0) else decide ((((cs.zip rs).map fun q => q.1 * q.2).sum - res) % m = 0)))) ds
theorem ok_keeps {Pg : Program} {w : World} {K : PySem.W.Frag} {mg : Str → Option Value} {base : Heap} {a : Addr} {fd : FuncData} (F : L2.Fun K "keeps" "keeps" s_keeps a fd)
    {a_total_of : Addr} {d_total_of : FuncData} (C_total_of : Callee Pg w K mg base 1 "total_of" a_total_of d_total_of ["coefs", "row"] fs_total_of) :
    FnOk Pg w K mg base CX0 2 a fd ["row", "claim"] (spD K fs_keeps) := by
  refine Fun.okD [] F sc_keeps (fun ds QD h => ?_) (fun cdv A outer s H E hr => ⟨_, _, (dss_cons (ds_asg (de_v 1 (pv 1)) (dg_seq (fun h => pg_tup rfl h) (fun h => pg_unl rfl h) (dgs_cons (dg_name (pg_name (i := 2) sc_keeps.nd rfl (by first | exact .inl rfl | exact .inr rfl))) (dgs_cons (dg_name (pg_name (i := 3) sc_keeps.nd rfl (by first | exact .inl rfl | exact .inr rfl))) (dgs_cons (dg_name (pg_name (i := 4) sc_keeps.nd rfl (by first | exact .inl rfl | exact .inr rfl))) dgs_nil)))))
    (dss_cons (ds_asg (de_op op_sub os_sub (de_o (do_callP (fun h => pe_call C_total_of.ok hr (by rfl) C_total_of.g C_total_of.kp C_total_of.b .nil pass0 h) (da_cons (de_v 2 (pv 2)) (da_cons (de_v 0 (pv 0)) da_nil)))) (de_v 3 (pv 3))) (dg_name (pg_name (i := 5) sc_keeps.nd rfl (by first | exact .inl rfl | exact .inr rfl))))
    (dss_one (ds_ret (de_ifExp (dt_cmp op_eq os_eq (de_v 4 (pv 4)) de_int (nomark _)) (de_cmp op_eq os_eq (de_v 5 (pv 5)) de_int (nomark _)) (de_cmp op_eq os_eq (de_op op_mod os_mod (de_v 5 (pv 5)) (de_v 4 (pv 4))) de_int (nomark _))))))), fun ds QD h => ?_⟩)
  · first
      | (obtain ⟨rfl, _⟩ := h; exact ⟨rfl, rfl⟩)
      | (obtain ⟨_, rfl, _⟩ := h; exact ⟨rfl, rfl⟩)
      | (obtain ⟨_, _, rfl, _⟩ := h; exact ⟨rfl, rfl⟩)
      | (obtain ⟨_, _, _, rfl, _⟩ := h; exact ⟨rfl, rfl⟩)
      | (obtain ⟨_, _, _, _, rfl, _⟩ := h; exact ⟨rfl, rfl⟩)
      | (obtain ⟨_, _, _, _, _, rfl, _⟩ := h; exact ⟨rfl, rfl⟩)
      | (obtain ⟨_, _, _, _, _, _, rfl, _⟩ := h; exact ⟨rfl, rfl⟩)
      | (obtain ⟨_, _, _, _, _, _, _, rfl, _⟩ := h; exact ⟨rfl, rfl⟩)
      | (obtain ⟨_, _, _, _, _, _, _, _, rfl, _⟩ := h; exact ⟨rfl, rfl⟩)
      | (obtain ⟨_, _, _, _, _, _, _, _, _, rfl, _⟩ := h; exact ⟨rfl, rfl⟩)
      | (obtain ⟨_, _, _, _, _, _, _, _, _, _, rfl, _⟩ := h; exact ⟨rfl, rfl⟩)
      | (obtain ⟨_, _, _, _, _, _, _, _, _, _, _, rfl, _⟩ := h; exact ⟨rfl, rfl⟩)
  · obtain ⟨t1, t2, t3, cs, rs, res, m, rfl, ⟨hl, hl2⟩, s1, s2, hm, q⟩ := h
    cases t1
    all_goals
      walk_at "go"
      refine ⟨t3, t2, cs, rs, rfl, ⟨hl, hl2⟩, s1, s2, ?_⟩
      walk_at "go"
      refine ⟨fun h => ?_, fun h => ?_⟩
      · have h' : m = 0 := of_decide_eq_true h
        rw [if_pos h'] at q
        exact ⟨rfl, q⟩
      · have h' : ¬ m = 0 := of_decide_eq_false h
        rw [if_neg h'] at q
        walk_at "go"
        exact q
/-! ### _law_is_row -/
abbrev s__law_is_row : Stmt := topS 10
theorem sc__law_is_row : FnScope ["value", "own_width", "entry"] ["value", "own_width"] (defScope s__law_is_row) := ⟨rfl, rfl, rfl, by decide +kernel, rfl, by decide +kernel, by decide +kernel⟩
theorem pI_get {ns : List Int} {i : Nat} {p : P} (h : (pI ns)[i]? = some p) : ∃ n, p = .int n := by
  rw [pI, List.getElem?_map] at h
  cases e : ns[i]? with
  | none => rw [e] at h; cases h
  | some n => rw [e] at h; cases h; exact ⟨n, rfl⟩
def fs__law_is_row : FSp := fun ds Q => ∃ (ns : List Int) (w : Nat), ds = [.sh (.tup (pI ns)), .sh (.int (w : Int))] ∧ ns.length = w ∧ Q (.sh (.bl true)) ds
theorem ok__law_is_row {Pg : Program} {w : World} {K : PySem.W.Frag} {mg : Str → Option Value} {base : Heap} {a : Addr} {fd : FuncData} (F : L2.Fun K "_law_is_row" "_law_is_row" s__law_is_row a fd)
    (m_isinstance : mg "isinstance" = none)
    (m_tuple : mg "tuple" = none)
    (m_len : mg "len" = none)
    {a__law_int : Addr} {d__law_int : FuncData} (C__law_int : Callee Pg w K mg base 1 "_law_int" a__law_int d__law_int ["value"] fs__law_int) :
    FnOk Pg w K mg base CX0 2 a fd ["value", "own_width"] (spD K fs__law_is_row) := by
  refine Fun.okD [] F sc__law_is_row (fun ds QD h => ?_) (fun cdv A outer s H E hr => ⟨_, _, (dss_cons (ds_if (DW.pt (dw_or (dt_not (dt_tru (de_cb (fun h => pe_callB call_isi (by rfl) m_isinstance (by decide +kernel) h) cs_isi (da_cons (de_v 0 (pv 0)) (da_cons (de_glob (p := .ty "tuple") (pe_bltn (v := .ty "tuple") (u := .type "tuple") (by rfl) m_tuple (by decide +kernel) rfl) (fun _ => rfl)) da_nil))))) (dw_or1 (dt_cmp op_ne os_ne (de_cb (fun h => pe_callB call_len (by rfl) m_len PySem.boot_len h) cs_len (da_cons (de_v 0 (pv 0)) da_nil)) (de_v 1 (pv 1)) (nomark _)))))
    (dss_one (ds_ret de_bl))
    dss_nil)
    (dss_cons (ds_for PassesOwn.never rfl (di_seq (de_v 0 (pv 0))) (dg_name (pg_name (i := 2) sc__law_is_row.nd rfl (by first | exact .inl rfl | exact .inr rfl)))
    (dss_one (ds_if (dt_not (dt_tru (de_o (do_callP (fun h => pe_call C__law_int.ok hr (by rfl) C__law_int.g C__law_int.kp C__law_int.b .nil pass0 h) (da_cons (de_v 2 (pv 2)) da_nil)))))
    (dss_one (ds_ret de_bl))
    dss_nil)))
    (dss_one (ds_ret de_bl)))), fun ds QD h => ?_⟩)
  · first
      | (obtain ⟨rfl, _⟩ := h; exact ⟨rfl, rfl⟩)
      | (obtain ⟨_, rfl, _⟩ := h; exact ⟨rfl, rfl⟩)
      | (obtain ⟨_, _, rfl, _⟩ := h; exact ⟨rfl, rfl⟩)
      | (obtain ⟨_, _, _, rfl, _⟩ := h; exact ⟨rfl, rfl⟩)
      | (obtain ⟨_, _, _, _, rfl, _⟩ := h; exact ⟨rfl, rfl⟩)
      | (obtain ⟨_, _, _, _, _, rfl, _⟩ := h; exact ⟨rfl, rfl⟩)
      | (obtain ⟨_, _, _, _, _, _, rfl, _⟩ := h; exact ⟨rfl, rfl⟩)
      | (obtain ⟨_, _, _, _, _, _, _, rfl, _⟩ := h; exact ⟨rfl, rfl⟩)
      | (obtain ⟨_, _, _, _, _, _, _, _, rfl, _⟩ := h; exact ⟨rfl, rfl⟩)
      | (obtain ⟨_, _, _, _, _, _, _, _, _, rfl, _⟩ := h; exact ⟨rfl, rfl⟩)
      | (obtain ⟨_, _, _, _, _, _, _, _, _, _, rfl, _⟩ := h; exact ⟨rfl, rfl⟩)
      | (obtain ⟨_, _, _, _, _, _, _, _, _, _, _, rfl, _⟩ := h; exact ⟨rfl, rfl⟩)
  · obtain ⟨ns, w, rfl, hw, q⟩ := h
    walk_at "go"
    refine ⟨true, by decide +kernel, ?_⟩
    walk_at "go"
    refine ⟨fun h => Bool.noConfusion h, fun _ => ?_⟩
    walk_at "go"
    refine ⟨fun h => ?_, fun _ => ?_⟩
    · exfalso
      subst hw
      have h' : (!decide (((pI ns).length : Int) = (ns.length : Int))) = true := h
      rw [decide_eq_true (by rw [pI, List.length_map])] at h'
      exact Bool.noConfusion h'
    · walk_at "go"
      refine ⟨fun _ env => ∃ ev, env = [some (.sh (.tup (pI ns))), some (.sh (.int (w : Int))), ev], ⟨none, rfl⟩, fun i p e hp hI => ?_, fun e hI => ?_⟩
      · obtain ⟨ev, rfl⟩ := hI
        obtain ⟨n, rfl⟩ := pI_get hp
        walk_at "go"
        refine ⟨n, rfl, ?_⟩
        conv => whnf
        refine ⟨fun h => Bool.noConfusion h, fun _ => ?_⟩
        exact ⟨_, rfl⟩
      · obtain ⟨ev, rfl⟩ := hI
        exact ⟨rfl, q⟩
/-! ### _law_huge -/
abbrev s__law_huge : Stmt := topS 12
theorem sc__law_huge : FnScope ["cell", "value", "draw"] ["cell"] (defScope s__law_huge) := ⟨rfl, rfl, rfl, by decide +kernel, rfl, by decide +kernel, by decide +kernel⟩
theorem pI_get' {ns : List Int} {i : Nat} {p : P} (h : (pI ns)[i]? = some p) : ∃ n, p = .int n ∧ n ∈ ns := by
  rw [pI, List.getElem?_map] at h
  cases e : ns[i]? with
  | none => rw [e] at h; cases h
  | some n => rw [e] at h; cases h; exact ⟨n, rfl, List.mem_of_getElem? e⟩
theorem huge_step {v d : Int} {i : Nat} (h : 0 ≤ v ∧ v < 1000000 ^ i) (hd : 0 ≤ d ∧ d < 1000000) : 0 ≤ v * 1000000 + d ∧ v * 1000000 + d < 1000000 ^ (i + 1) := by
  rw [Int.pow_succ]
  omega
theorem huge_le {i : Nat} (h : i ≤ 43) : (1000000 : Int) ^ i ≤ 10 ^ 258 := by
  revert i
  decide +kernel
def fs__law_huge : FSp := fun ds Q => ∃ (c : Int), ds = [.sh (.int c)] ∧ ∀ v : Int, 0 ≤ v ∧ v < 10 ^ 258 → Q (.sh (.int v)) ds
theorem ok__law_huge {Pg : Program} {w : World} {K : PySem.W.Frag} {mg : Str → Option Value} {base : Heap} {a : Addr} {fd : FuncData} (F : L2.Fun K "_law_huge" "_law_huge" s__law_huge a fd)
    {a__law_draws : Addr} {d__law_draws : FuncData} (C__law_draws : Callee Pg w K mg base 1 "_law_draws" a__law_draws d__law_draws ["cell", "many"] fs__law_draws) :
    FnOk Pg w K mg base CX0 2 a fd ["cell"] (spD K fs__law_huge) := by
  refine Fun.okD [] F sc__law_huge (fun ds QD h => ?_) (fun cdv A outer s H E hr => ⟨_, _, (dss_cons (ds_asg de_int (dg_name (pg_name (i := 1) sc__law_huge.nd rfl (by first | exact .inl rfl | exact .inr rfl))))
    (dss_cons (ds_for PassesOwn.never rfl (di_seq (de_o (do_callP (fun h => pe_call C__law_draws.ok hr (by rfl) C__law_draws.g C__law_draws.kp C__law_draws.b .nil pass0 h) (da_cons (de_v 0 (pv 0)) (da_cons de_int da_nil))))) (dg_name (pg_name (i := 2) sc__law_huge.nd rfl (by first | exact .inl rfl | exact .inr rfl)))
    (dss_one (ds_asg (de_op op_add os_add (de_op op_mulW os_mul (de_v 1 (pv 1)) de_int) (de_v 2 (pv 2))) (dg_name (pg_name (i := 1) sc__law_huge.nd rfl (by first | exact .inl rfl | exact .inr rfl))))))
    (dss_one (ds_ret (de_v 1 (pv 1)))))), fun ds QD h => ?_⟩)
  · first
      | (obtain ⟨rfl, _⟩ := h; exact ⟨rfl, rfl⟩)
      | (obtain ⟨_, rfl, _⟩ := h; exact ⟨rfl, rfl⟩)
      | (obtain ⟨_, _, rfl, _⟩ := h; exact ⟨rfl, rfl⟩)
      | (obtain ⟨_, _, _, rfl, _⟩ := h; exact ⟨rfl, rfl⟩)
      | (obtain ⟨_, _, _, _, rfl, _⟩ := h; exact ⟨rfl, rfl⟩)
      | (obtain ⟨_, _, _, _, _, rfl, _⟩ := h; exact ⟨rfl, rfl⟩)
      | (obtain ⟨_, _, _, _, _, _, rfl, _⟩ := h; exact ⟨rfl, rfl⟩)
      | (obtain ⟨_, _, _, _, _, _, _, rfl, _⟩ := h; exact ⟨rfl, rfl⟩)
      | (obtain ⟨_, _, _, _, _, _, _, _, rfl, _⟩ := h; exact ⟨rfl, rfl⟩)
      | (obtain ⟨_, _, _, _, _, _, _, _, _, rfl, _⟩ := h; exact ⟨rfl, rfl⟩)
      | (obtain ⟨_, _, _, _, _, _, _, _, _, _, rfl, _⟩ := h; exact ⟨rfl, rfl⟩)
      | (obtain ⟨_, _, _, _, _, _, _, _, _, _, _, rfl, _⟩ := h; exact ⟨rfl, rfl⟩)
  · obtain ⟨c, rfl, q⟩ := h
    walk_at "go"
    refine ⟨c, 43, rfl, by decide, ?_⟩
    walk_at "go"
    refine ⟨fun i env => ∃ (v : Int) (kv : _), env = [some (.sh (.int c)), some (.sh (.int v)), kv] ∧ (0 ≤ v ∧ v < 1000000 ^ i), ⟨_, none, rfl, by omega, by omega⟩, fun i p e hp hI => ?_, fun e hI => ?_⟩
    · obtain ⟨v, kv, rfl, hv⟩ := hI
      obtain ⟨d, rfl, hd⟩ := pI_get' hp
      have hi : i < 43 := by
        have := (List.getElem?_eq_some_iff.mp hp).1
        rw [List.length_map, drawsF_len] at this
        exact this
      have hm := drawsF_rg c 43 d hd
      have hb := huge_le (i := i) (by omega)
      walk_at "go"
      refine ⟨sm_mul (sm_of (10 ^ 258) ⟨by omega, by omega⟩) (sm_of 1000000 (by decide)), ?_⟩
      walk_at "go"
      exact ⟨_, _, rfl, huge_step hv hm⟩
    · obtain ⟨v, kv, rfl, hv⟩ := hI
      rw [List.length_map, drawsF_len] at hv
      exact ⟨rfl, q _ ⟨hv.1, Int.lt_of_lt_of_le hv.2 (by decide +kernel)⟩⟩
/-! ### _law_row -/
abbrev s__law_row : Stmt := topS 13
theorem sc__law_row : FnScope ["draws", "place", "own_width", "k"] ["draws", "place", "own_width"] (defScope s__law_row) := ⟨rfl, rfl, rfl, by decide +kernel, rfl, by decide +kernel, by decide +kernel⟩
def fs__law_row : FSp := fun ds Q => ∃ (rs : List Int) (k w : Nat), ds = [.sh (.lst (pI rs)), .ol [.int (k : Int)], .sh (.int (w : Int))] ∧ (w ≤ 100000 ∧ ∀ r ∈ rs, 0 ≤ r ∧ r < 1000000) ∧
  ∀ xs : List Int, xs.length = w → (∀ x ∈ xs, -(10 ^ 30 : Int) ≤ x ∧ x ≤ 10 ^ 30) → Q (.ol (pI xs)) [.sh (.lst (pI rs)), .ol [.int ((k + w : Nat) : Int)], .sh (.int (w : Int))]
theorem ok__law_row {Pg : Program} {w : World} {K : PySem.W.Frag} {mg : Str → Option Value} {base : Heap} {a : Addr} {fd : FuncData} (F : L2.Fun K "_law_row" "_law_row" s__law_row a fd)
    (m_range : mg "range" = none)
    {a__law_number : Addr} {d__law_number : FuncData} (C__law_number : Callee Pg w K mg base 1 "_law_number" a__law_number d__law_number ["draw"] fs__law_number)
    {a__law_take : Addr} {d__law_take : FuncData} (C__law_take : Callee Pg w K mg base 1 "_law_take" a__law_take d__law_take ["draws", "place"] fs__law_take) :
    FnOk Pg w K mg base CX0 2 a fd ["draws", "place", "own_width"] (spD K fs__law_row) := by
  refine Fun.okD [1] F sc__law_row (fun ds QD h => ?_) (fun cdv A outer s H E hr => ⟨_, _, (dss_one (ds_retO (do_lc (own := [("k", 3)]) (n := 4) rfl sc__law_row.nd (di_rng1 (fun h => pi_range1 (by rfl) m_range h) (da_cons (de_v 2 (pv 2)) da_nil)) (blkOk_by (N := ["draws", "place", "own_width", "k"]) (sc := defScope s__law_row) (own := [("k", 3)]) (by decide +kernel)) (fun _ _ _ _ _ => (dg_name (pg_name (i := 3) sc__law_row.nd rfl (by first | exact .inl rfl | exact .inr rfl)))) (fun _ _ _ _ _ => dts_nil) (fun _ _ _ _ _ => (de_o (do_callP (fun h => pe_call C__law_number.ok hr (by rfl) C__law_number.g C__law_number.kp C__law_number.b .nil pass0 h) (da_cons (de_o (do_call (m := false) (fun h => pe_call C__law_take.ok hr (by rfl) C__law_take.g C__law_take.kp C__law_take.b .nil pass0 h) (da_cons (de_v 0 (pv 0)) (da_slot (pv 1) da_nil)))) da_nil))))))), fun ds QD h => ?_⟩)
  · first
      | (obtain ⟨rfl, _⟩ := h; exact ⟨rfl, rfl⟩)
      | (obtain ⟨_, rfl, _⟩ := h; exact ⟨rfl, rfl⟩)
      | (obtain ⟨_, _, rfl, _⟩ := h; exact ⟨rfl, rfl⟩)
      | (obtain ⟨_, _, _, rfl, _⟩ := h; exact ⟨rfl, rfl⟩)
      | (obtain ⟨_, _, _, _, rfl, _⟩ := h; exact ⟨rfl, rfl⟩)
      | (obtain ⟨_, _, _, _, _, rfl, _⟩ := h; exact ⟨rfl, rfl⟩)
      | (obtain ⟨_, _, _, _, _, _, rfl, _⟩ := h; exact ⟨rfl, rfl⟩)
      | (obtain ⟨_, _, _, _, _, _, _, rfl, _⟩ := h; exact ⟨rfl, rfl⟩)
      | (obtain ⟨_, _, _, _, _, _, _, _, rfl, _⟩ := h; exact ⟨rfl, rfl⟩)
      | (obtain ⟨_, _, _, _, _, _, _, _, _, rfl, _⟩ := h; exact ⟨rfl, rfl⟩)
      | (obtain ⟨_, _, _, _, _, _, _, _, _, _, rfl, _⟩ := h; exact ⟨rfl, rfl⟩)
      | (obtain ⟨_, _, _, _, _, _, _, _, _, _, _, rfl, _⟩ := h; exact ⟨rfl, rfl⟩)
  · obtain ⟨rs, k, w, rfl, ⟨hw, hr0⟩, q⟩ := h
    walk_at "go"
    refine ⟨fun i acc env => ∃ xs : List Int, acc = pI xs ∧ (xs.length = i ∧ ∀ x ∈ xs, -(10 ^ 30 : Int) ≤ x ∧ x ≤ 10 ^ 30) ∧ env = [some (.sh (.lst (pI rs))), some (.ol [.int ((k + i : Nat) : Int)]), some (.sh (.int (w : Int))), none], ⟨[], rfl, ⟨rfl, fun _ h => absurd h List.not_mem_nil⟩, rfl⟩, fun i p acc e hp hI => ?_, fun acc e hI => ?_⟩
    · obtain ⟨xs, rfl, ⟨hl, hx⟩, rfl⟩ := hI
      obtain ⟨hi, rfl⟩ := rngP_get hp
      have hi' : i < w := by simpa using hi
      walk_at "go"
      refine ⟨fun _ => ?_, fun h => Bool.noConfusion h⟩
      walk_at "go"
      refine ⟨rs, k + i, rfl, ?_⟩
      walk_at "go"
      have hd : 0 ≤ rs.getD (k + i) 0 ∧ rs.getD (k + i) 0 < 1000000 := by
        rw [List.getD_eq_getElem?_getD]
        cases e : rs[k + i]? with
        | none => decide
        | some r => exact hr0 r (List.mem_of_getElem? e)
      refine ⟨_, rfl, hd, fun v hv => ?_⟩
      walk_at "go"
      refine ⟨xs ++ [v], (pI_snoc xs v).symm, ⟨by rw [List.length_append, hl]; rfl, fun x hx' => ?_⟩, rfl⟩
      rcases List.mem_append.mp hx' with hx' | hx'
      · exact hx x hx'
      · rw [List.mem_singleton.mp hx']; exact hv
    · obtain ⟨xs, rfl, ⟨hl, hx⟩, rfl⟩ := hI
      rw [rngP_len] at hl ⊢
      exact ⟨rfl, q xs (by simpa using hl) hx⟩
/-! ### _law_combines -/
abbrev s__law_combines : Stmt := topS 16
theorem sc__law_combines : FnScope ["rows", "factors", "own_width", "listed", "given", "numbers", "due", "turn", "actual", "empty"] ["rows", "factors", "own_width", "listed"] (defScope s__law_combines) := ⟨rfl, rfl, rfl, by decide +kernel, rfl, by decide +kernel, by decide +kernel⟩
theorem combN_eq {w : Nat} {rows : List (List Int)} {fs : List Int} {a : List Int} {n : Nat} : ∀ i, i ≤ n → combN w (rows.set n a) fs i = combN w rows fs i
  | 0, _ => rfl
  | i + 1, h => by
    show stepC _ _ _ = stepC _ _ _
    have e : (rows.set n a).getD i [] = rows.getD i [] := by rw [List.getD_eq_getElem?_getD, List.getD_eq_getElem?_getD, List.getElem?_set_ne (by omega)]
    rw [combN_eq i (by omega), e]
theorem comb_bump {w : Nat} {rows : List (List Int)} {fs : List Int} {r : List Int} {f x0 d0 : Int} (c : CIn w rows fs) (hp : 0 < rows.length) (hr : rows[rows.length - 1]? = some r) (hf : fs[fs.length - 1]? = some f) (hx : r[0]? = some x0) (hd : (combF w rows fs)[0]? = some d0) :
    combF w (rows.set (rows.length - 1) (r.set 0 (x0 + 1))) fs = (combF w rows fs).set 0 (d0 + f) := by
  rw [c.fl] at hf
  unfold combF at hd ⊢
  rw [List.length_set]
  obtain ⟨m, hm⟩ : ∃ m, rows.length = m + 1 := ⟨rows.length - 1, by omega⟩
  have hm2 : m < rows.length := by omega
  rw [hm, Nat.add_sub_cancel] at hr hf
  rw [hm] at hd
  rw [hm, Nat.add_sub_cancel]
  have e1 : combN w rows fs (m + 1) = stepC (combN w rows fs m) r f := by
    show stepC _ (rows.getD m []) (fs.getD m 0) = _
    rw [getD_of hr, getD_of hf]
  have e2 : combN w (rows.set m (r.set 0 (x0 + 1))) fs (m + 1) = stepC (combN w rows fs m) (r.set 0 (x0 + 1)) f := by
    show stepC _ ((rows.set m (r.set 0 (x0 + 1))).getD m []) (fs.getD m 0) = _
    rw [getD_of hf, combN_eq _ (Nat.le_refl _), getD_of (List.getElem?_set_self hm2)]
  rw [e1] at hd
  rw [e1, e2]
  generalize combN w rows fs m = t at hd
  cases r with
  | nil => cases hx
  | cons y rs =>
    cases hx
    cases t with
    | nil => cases hd
    | cons t0 ts =>
      have hd' : t0 + f * x0 = d0 := Option.some.inj hd
      show (t0 + f * (x0 + 1)) :: stepC ts rs f = (d0 + f) :: stepC ts rs f
      rw [Int.mul_add, ← hd']
      congr 1
      omega
theorem CIn.bump {w : Nat} {rows : List (List Int)} {fs : List Int} {r : List Int} {x0 : Int} (c : CIn w rows fs) (hr : rows[rows.length - 1]? = some r) (hx : r[0]? = some x0) (h : Sm (x0 + 1)) : CIn w (rows.set (rows.length - 1) (r.set 0 (x0 + 1))) fs where
  hw := c.hw
  hn := by rw [List.length_set]; exact c.hn
  len := fun r' hr' => by
    rcases List.mem_or_eq_of_mem_set hr' with h1 | h1
    · exact c.len r' h1
    · rw [h1, List.length_set]; exact c.len r (List.mem_of_getElem? hr)
  fl := by rw [List.length_set]; exact c.fl
  sf := c.sf
  sr := fun r' hr' x hx' => by
    rcases List.mem_or_eq_of_mem_set hr' with h1 | h1
    · exact c.sr r' h1 x hx'
    · rw [h1] at hx'
      rcases List.mem_or_eq_of_mem_set hx' with h2 | h2
      · exact c.sr r (List.mem_of_getElem? hr) x h2
      · rw [h2]; exact h
def fs__law_combines : FSp := fun ds Q => ∃ (t : Bool) (w : Nat) (rows : List (List Int)) (fs : List Int), ds = [.sh (.lst (pR false rows)), .sh (.lst (pI fs)), .sh (.int (w : Int)), .sh (.bl t)] ∧ CIn w rows fs ∧ (∀ r ∈ rows, ∀ x ∈ r, Sm (x + 1)) ∧ Q (.sh (.bl true)) ds
theorem ok__law_combines {Pg : Program} {w : World} {K : PySem.W.Frag} {mg : Str → Option Value} {base : Heap} {a : Addr} {fd : FuncData} (F : L2.Fun K "_law_combines" "_law_combines" s__law_combines a fd)
    (m_range : mg "range" = none)
    (m_list : mg "list" = none)
    (m_len : mg "len" = none)
    {a__law_handed : Addr} {d__law_handed : FuncData} (C__law_handed : Callee Pg w K mg base 1 "_law_handed" a__law_handed d__law_handed ["rows", "listed"] fs__law_handed)
    {a__law_combined : Addr} {d__law_combined : FuncData} (C__law_combined : Callee Pg w K mg base 1 "_law_combined" a__law_combined d__law_combined ["rows", "factors", "own_width"] fs__law_combined)
    {a_combine : Addr} {d_combine : FuncData} (C_combine : CalleeK Pg w K mg base 1 "combine" a_combine d_combine ["rows", "factors", "width"] ["width"] 2 1 fs_combine)
    {a__law_is_row : Addr} {d__law_is_row : FuncData} (C__law_is_row : Callee Pg w K mg base 2 "_law_is_row" a__law_is_row d__law_is_row ["value", "own_width"] fs__law_is_row) :
    FnOk Pg w K mg base CX0 3 a fd ["rows", "factors", "own_width", "listed"] (spD K fs__law_combines) := by
  refine Fun.okD [] F sc__law_combines (fun ds QD h => ?_) (fun cdv A outer s H E hr => ⟨_, _, (dss_cons (ds_put (do_callP (fun h => pe_call C__law_handed.ok (hr.mono (by decide)) (by rfl) C__law_handed.g C__law_handed.kp C__law_handed.b .nil pass0 h) (da_cons (de_v 0 (pv 0)) (da_cons (de_v 3 (pv 3)) da_nil))) (pg_name (i := 4) sc__law_combines.nd rfl (by first | exact .inl rfl | exact .inr rfl)))
    (dss_cons (ds_asg (de_ix ix_seq os_ix (de_o (do_callP (fun h => pe_call C__law_handed.ok (hr.mono (by decide)) (by rfl) C__law_handed.g C__law_handed.kp C__law_handed.b .nil pass0 h) (da_cons (de_o (do_lst (da_cons (de_v 1 (pv 1)) da_nil))) (da_cons (de_v 3 (pv 3)) da_nil)))) de_int) (dg_name (pg_name (i := 5) sc__law_combines.nd rfl (by first | exact .inl rfl | exact .inr rfl))))
    (dss_cons (ds_put (do_callP (fun h => pe_call C__law_combined.ok (hr.mono (by decide)) (by rfl) C__law_combined.g C__law_combined.kp C__law_combined.b .nil pass0 h) (da_cons (de_v 0 (pv 0)) (da_cons (de_v 1 (pv 1)) (da_cons (de_v 2 (pv 2)) da_nil)))) (pg_name (i := 6) sc__law_combines.nd rfl (by first | exact .inl rfl | exact .inr rfl)))
    (dss_cons (ds_for PassesOwn.never rfl (di_rng1 (fun h => pi_range1 (by rfl) m_range h) (da_cons de_int da_nil)) (dg_name (pg_name (i := 7) sc__law_combines.nd rfl (by first | exact .inl rfl | exact .inr rfl)))
    (dss_cons (ds_asg (de_lendT 4 (de_o (do_callK (fun h hk => pe_callK C_combine.ok (hr.mono (by decide)) (by rfl) C_combine.g C_combine.kp C_combine.kb pass0 h hk) (da_cons (de_v 4 (pv 4)) (da_cons (de_v 5 (pv 5)) da_nil)) (dk_cons (de_v 2 (pv 2)) dk_nil)))) (dg_name (pg_name (i := 8) sc__law_combines.nd rfl (by first | exact .inl rfl | exact .inr rfl))))
    (dss_one (ds_if (dt_lend 6 (DW.pt (dw_or (dt_not (dt_tru (de_o (do_callP (fun h => pe_call C__law_is_row.ok hr (by rfl) C__law_is_row.g C__law_is_row.kp C__law_is_row.b .nil pass0 h) (da_cons (de_v 8 (pv 8)) (da_cons (de_v 2 (pv 2)) da_nil)))))) (dw_or1 (dt_cmp (op_neD hr.units) os_neD (de_o (do_cb (fun h => pe_callTy call_list_of (by rfl) m_list (by decide +kernel) h) cs_list (da_cons (de_v 8 (pv 8)) da_nil))) (de_v 6 (pv 6)) (nomark _))))))
    (dss_one (ds_ret de_bl))
    dss_nil))))
    (dss_cons (ds_if (dt_lend 4 (DW.pt (dw_or (dt_cmp (op_neD hr.units) os_neD (de_v 4 (pv 4)) (de_o (do_callP (fun h => pe_call C__law_handed.ok (hr.mono (by decide)) (by rfl) C__law_handed.g C__law_handed.kp C__law_handed.b .nil pass0 h) (da_cons (de_v 0 (pv 0)) (da_cons (de_v 3 (pv 3)) da_nil)))) (nomark _)) (dw_or1 (dt_cmp (op_neD hr.units) os_neD (de_o (do_cb (fun h => pe_callTy call_list_of (by rfl) m_list (by decide +kernel) h) cs_list (da_cons (de_v 5 (pv 5)) da_nil))) (de_v 1 (pv 1)) (nomark _))))))
    (dss_one (ds_ret de_bl))
    dss_nil)
    (dss_mid (ds_if (DW.pt (dw_and (dt_tru (de_v 3 (pv 3))) (dw_and (dt_cmp op_gt os_gt (de_cb (fun h => pe_callB call_len (by rfl) m_len PySem.boot_len h) cs_len (da_cons (de_v 0 (pv 0)) da_nil)) de_int (nomark _)) (dw_and1 (dt_cmp op_gt os_gt (de_v 2 (pv 2)) de_int (nomark _))))))
    (dss_cons (ds_setII (fun h hj => pg_sub (pe_ix ix_list (pv 4) hj (fun _ _ => rfl)) h set_list) (de_un un_neg us_neg de_int) de_int (de_lend 4 (de_op op_add os_add (de_ix ix_seq os_ix (de_ix ix_seq os_ix (de_v 4 (pv 4)) (de_un un_neg us_neg de_int)) de_int) de_int)))
    (dss_cons (ds_setI (fun h => pg_sub (pv 6) h set_list) de_int (de_op op_add os_add (de_itm 6 (fun h => pe_ix ix_list (pv 6) h (fun _ _ => rfl)) de_int) (de_ix ix_seq os_ix (de_v 1 (pv 1)) (de_un un_neg us_neg de_int))))
    (dss_cons (ds_asg (de_lendT 4 (de_o (do_callK (fun h hk => pe_callK C_combine.ok (hr.mono (by decide)) (by rfl) C_combine.g C_combine.kp C_combine.kb pass0 h hk) (da_cons (de_v 4 (pv 4)) (da_cons (de_v 5 (pv 5)) da_nil)) (dk_cons (de_v 2 (pv 2)) dk_nil)))) (dg_name (pg_name (i := 8) sc__law_combines.nd rfl (by first | exact .inl rfl | exact .inr rfl))))
    (dss_one (ds_if (dt_lend 6 (DW.pt (dw_or (dt_not (dt_tru (de_o (do_callP (fun h => pe_call C__law_is_row.ok hr (by rfl) C__law_is_row.g C__law_is_row.kp C__law_is_row.b .nil pass0 h) (da_cons (de_v 8 (pv 8)) (da_cons (de_v 2 (pv 2)) da_nil)))))) (dw_or1 (dt_cmp (op_neD hr.units) os_neD (de_o (do_cb (fun h => pe_callTy call_list_of (by rfl) m_list (by decide +kernel) h) cs_list (da_cons (de_v 8 (pv 8)) da_nil))) (de_v 6 (pv 6)) (nomark _))))))
    (dss_one (ds_ret de_bl))
    dss_nil)))))
    dss_nil)
    (dss_cons (ds_asg (de_o (do_callK (fun h hk => pe_callK C_combine.ok (hr.mono (by decide)) (by rfl) C_combine.g C_combine.kp C_combine.kb pass0 h hk) (da_cons (de_o (do_lst da_nil)) (da_cons (de_tup da_nil) da_nil)) (dk_cons (de_v 2 (pv 2)) dk_nil))) (dg_name (pg_name (i := 9) sc__law_combines.nd rfl (by first | exact .inl rfl | exact .inr rfl))))
    (dss_one (ds_ret (de_and (de_o (do_callP (fun h => pe_call C__law_is_row.ok hr (by rfl) C__law_is_row.g C__law_is_row.kp C__law_is_row.b .nil pass0 h) (da_cons (de_v 9 (pv 9)) (da_cons (de_v 2 (pv 2)) da_nil)))) (de_one (de_cmp (op_eqD hr.units) os_eqD (de_o (do_cb (fun h => pe_callTy call_list_of (by rfl) m_list (by decide +kernel) h) cs_list (da_cons (de_v 9 (pv 9)) da_nil))) (de_o (do_op op_rep oo_rep (de_o (do_lst (da_cons de_int da_nil))) (de_v 2 (pv 2)))) (nomark _))))))))))))), fun ds QD h => ?_⟩)
  · first
      | (obtain ⟨rfl, _⟩ := h; exact ⟨rfl, rfl⟩)
      | (obtain ⟨_, rfl, _⟩ := h; exact ⟨rfl, rfl⟩)
      | (obtain ⟨_, _, rfl, _⟩ := h; exact ⟨rfl, rfl⟩)
      | (obtain ⟨_, _, _, rfl, _⟩ := h; exact ⟨rfl, rfl⟩)
      | (obtain ⟨_, _, _, _, rfl, _⟩ := h; exact ⟨rfl, rfl⟩)
      | (obtain ⟨_, _, _, _, _, rfl, _⟩ := h; exact ⟨rfl, rfl⟩)
      | (obtain ⟨_, _, _, _, _, _, rfl, _⟩ := h; exact ⟨rfl, rfl⟩)
      | (obtain ⟨_, _, _, _, _, _, _, rfl, _⟩ := h; exact ⟨rfl, rfl⟩)
      | (obtain ⟨_, _, _, _, _, _, _, _, rfl, _⟩ := h; exact ⟨rfl, rfl⟩)
      | (obtain ⟨_, _, _, _, _, _, _, _, _, rfl, _⟩ := h; exact ⟨rfl, rfl⟩)
      | (obtain ⟨_, _, _, _, _, _, _, _, _, _, rfl, _⟩ := h; exact ⟨rfl, rfl⟩)
      | (obtain ⟨_, _, _, _, _, _, _, _, _, _, _, rfl, _⟩ := h; exact ⟨rfl, rfl⟩)
  · obtain ⟨t, w, rows, fs, rfl, c, c1, q⟩ := h
    have hw := c.hw
    have hn := c.hn
    have hL : ∀ r ∈ rows, r.length ≤ 1000 := fun r hr => by rw [c.len r hr]; exact hw
    cases t
    · walk_at "go"
      refine ⟨false, rows, rfl, ⟨hn, hL⟩, ?_⟩
      walk_at "go"
      refine ⟨false, [fs], rfl, ⟨(show 1 ≤ 1000 by decide), fun r hr => by rw [List.mem_singleton.mp hr, c.fl]; exact hn⟩, ?_⟩
      walk_at "go"
      refine ⟨_, rfl, ?_⟩
      walk_at "go"
      refine ⟨w, rows, fs, rfl, c, ?_⟩
      walk_at "go"
      refine ⟨fun i env => ∃ kv av, env = [some (.sh (.lst (pR false rows))), some (.sh (.lst (pI fs))), some (.sh (.int (w : Int))), some (.sh (.bl false)), some (.sh (.tup (pR true rows))), some (.sh (sq true (pI fs))), some (.ol (pI (combF w rows fs))), kv, av, none], ⟨none, none, rfl⟩, fun i p e hp hI => ?_, fun e hI => ?_⟩
      · obtain ⟨kv, av, rfl⟩ := hI
        obtain ⟨hi, rfl⟩ := rngP_get hp
        walk_at "go"
        refine ⟨true, true, true, w, rows, fs, rfl, c, ?_⟩
        walk_at "go"
        refine ⟨tupO_pI _, ?_⟩
        walk_at "go"
        refine ⟨_, w, rfl, combN_len c _ (Nat.le_refl _), ?_⟩
        walk_at "go"
        refine ⟨fun h => Bool.noConfusion h, fun _ => ?_⟩
        walk_at "go"
        refine ⟨fun h => (neqv (shp_ints (combF w rows fs)) h).elim, fun _ => ?_⟩
        exact ⟨_, _, rfl⟩
      · obtain ⟨kv, av, rfl⟩ := hI
        walk_at "go"
        refine ⟨false, rows, rfl, ⟨hn, hL⟩, ?_⟩
        walk_at "go"
        refine ⟨fun h => (neqv (shp_trows rows) h).elim, fun _ => ?_⟩
        walk_at "go"
        refine ⟨fun h => (neqv (shp_ints fs) h).elim, fun _ => ?_⟩
        walk_at "go"
        refine ⟨fun env => ∃ gv dv kv av, env = [some (.sh (.lst (pR false rows))), some (.sh (.lst (pI fs))), some (.sh (.int (w : Int))), some (.sh (.bl false)), gv, some (.sh (sq true (pI fs))), dv, kv, av, none], ?_, ?_⟩
        · walk_at "go"
          refine ⟨fun h => Bool.noConfusion h, fun _ => ?_⟩
          walk_at "go"
          exact ⟨fun h => Bool.noConfusion h, fun _ => ⟨_, _, _, _, rfl⟩⟩
        · rintro _ ⟨gv, dv, kv, av, rfl⟩
          walk_at "go"
          refine ⟨false, true, true, w, [], [], rfl, ⟨hw, Nat.zero_le _, fun _ h => absurd h List.not_mem_nil, rfl, fun _ h => absurd h List.not_mem_nil, fun _ h => absurd h List.not_mem_nil⟩, ?_⟩
          walk_at "go"
          refine ⟨_, w, rfl, List.length_replicate, ?_⟩
          walk_at "go"
          refine ⟨fun _ => ?_, fun h => Bool.noConfusion h⟩
          walk_at "go"
          rw [rep0]
          refine ⟨(shp_ints _).ok, ?_⟩
          walk_at "go"
          show QD (D.sh (P.bl (PyData.eqv (P.lst (pI (List.replicate w 0))).toD (P.lst (pI (List.replicate w 0))).toD))) _
          rw [(shp_ints (List.replicate w 0)).refl]
          exact q
    · walk_at "go"
      refine ⟨true, rows, rfl, ⟨hn, hL⟩, ?_⟩
      walk_at "go"
      refine ⟨true, [fs], rfl, ⟨(show 1 ≤ 1000 by decide), fun r hr => by rw [List.mem_singleton.mp hr, c.fl]; exact hn⟩, ?_⟩
      walk_at "go"
      refine ⟨_, rfl, ?_⟩
      walk_at "go"
      refine ⟨w, rows, fs, rfl, c, ?_⟩
      walk_at "go"
      refine ⟨fun i env => ∃ kv av, env = [some (.sh (.lst (pR false rows))), some (.sh (.lst (pI fs))), some (.sh (.int (w : Int))), some (.sh (.bl true)), some (.oll (rows.map pI)), some (.sh (sq false (pI fs))), some (.ol (pI (combF w rows fs))), kv, av, none], ⟨none, none, rfl⟩, fun i p e hp hI => ?_, fun e hI => ?_⟩
      · obtain ⟨kv, av, rfl⟩ := hI
        obtain ⟨hi, rfl⟩ := rngP_get hp
        walk_at "go"
        refine ⟨false, false, false, w, rows, fs, congrArg (fun z => [D.sh z, D.sh (sq false (pI fs)), D.sh (.int (w : Int))]) (frz_oll rows), c, ?_⟩
        walk_at "go"
        refine ⟨tupO_pI _, ?_⟩
        walk_at "go"
        refine ⟨_, w, rfl, combN_len c _ (Nat.le_refl _), ?_⟩
        walk_at "go"
        refine ⟨fun h => Bool.noConfusion h, fun _ => ?_⟩
        walk_at "go"
        refine ⟨fun h => (neqv (shp_ints (combF w rows fs)) h).elim, fun _ => ?_⟩
        exact ⟨_, _, rfl⟩
      · obtain ⟨kv, av, rfl⟩ := hI
        walk_at "go"
        refine ⟨true, rows, rfl, ⟨hn, hL⟩, ?_⟩
        walk_at "go"
        refine ⟨fun h => (neqv (shp_oll rows) h).elim, fun _ => ?_⟩
        walk_at "go"
        refine ⟨fun h => (neqv (shp_ints fs) h).elim, fun _ => ?_⟩
        walk_at "go"
        refine ⟨fun env => ∃ gv dv kv av, env = [some (.sh (.lst (pR false rows))), some (.sh (.lst (pI fs))), some (.sh (.int (w : Int))), some (.sh (.bl true)), gv, some (.sh (sq false (pI fs))), dv, kv, av, none], ?_, ?_⟩
        · walk_at "go"
          refine ⟨fun _ => ?_, fun h => Bool.noConfusion h⟩
          walk_at "go"
          refine ⟨fun h1 => ?_, fun h1 => ⟨fun h => Bool.noConfusion h, fun _ => ⟨_, _, _, _, rfl⟩⟩⟩
          have hp : 0 < rows.length := by have := of_decide_eq_true h1; rw [List.length_map] at this; omega
          walk_at "go"
          refine ⟨fun h2 => ?_, fun h2 => ⟨_, _, _, _, rfl⟩⟩
          have hw0 : 0 < w := by have := of_decide_eq_true h2; omega
          obtain ⟨r, hr⟩ : ∃ r, rows[rows.length - 1]? = some r := ⟨_, List.getElem?_eq_getElem (by omega)⟩
          obtain ⟨f, hf⟩ : ∃ f, fs[fs.length - 1]? = some f := ⟨_, List.getElem?_eq_getElem (by rw [c.fl]; omega)⟩
          have hrl := c.len r (List.mem_of_getElem? hr)
          obtain ⟨x0, hx⟩ : ∃ x, r[0]? = some x := ⟨_, List.getElem?_eq_getElem (by omega)⟩
          have hcl := combN_len c _ (Nat.le_refl _)
          obtain ⟨d0, hd⟩ : ∃ x, (combF w rows fs)[0]? = some x := ⟨_, List.getElem?_eq_getElem (by show 0 < (combN w rows fs rows.length).length; omega)⟩
          have eG : (rows.map pI).set (rows.length - 1) ((pI r).set 0 (.int (x0 + 1))) = (rows.set (rows.length - 1) (r.set 0 (x0 + 1))).map pI := by rw [List.map_set, pI, pI, List.map_set]
          have eD : (pI (combF w rows fs)).set 0 (.int (d0 + f)) = pI ((combF w rows fs).set 0 (d0 + f)) := by rw [pI, pI, List.map_set]
          have hB := comb_bump c hp hr hf hx hd
          have hC := c.bump hr hx (c1 r (List.mem_of_getElem? hr) x0 (List.mem_of_getElem? hx))
          walk_at "go"
          refine ⟨_, atI_m1 (last_map (f := P.lst) (last_map (f := pI) hr)), ?_⟩
          walk_at "go"
          refine ⟨_, atI_0 (fst_map (f := P.int) hx), ?_⟩
          walk_at "go"
          refine ⟨trivial, ?_⟩
          walk_at "go"
          refine ⟨rows.length - 1, pI r, by rw [List.length_map]; exact ixN_m1 hp, by rw [List.getElem?_map, hr]; rfl, ?_⟩
          walk_at "go"
          refine ⟨rfl, 0, by rw [List.length_map]; exact ixN_0 (by omega), ?_⟩
          rw [eG]
          walk_at "go"
          refine ⟨_, atI_0 (fst_map (f := P.int) hd), ?_⟩
          walk_at "go"
          refine ⟨_, atI_m1 (last_map (f := P.int) hf), ?_⟩
          walk_at "go"
          refine ⟨0, by rw [List.length_map]; exact ixN_0 (by show 0 < (combN w rows fs rows.length).length; omega), ?_⟩
          rw [eD]
          walk_at "go"
          refine ⟨false, false, false, w, _, fs, congrArg (fun z => [D.sh z, D.sh (sq false (pI fs)), D.sh (.int (w : Int))]) (frz_oll _), hC, ?_⟩
          rw [hB]
          walk_at "go"
          refine ⟨tupO_pI _, ?_⟩
          walk_at "go"
          refine ⟨_, w, rfl, by rw [List.length_set]; exact hcl, ?_⟩
          walk_at "go"
          refine ⟨fun h => Bool.noConfusion h, fun _ => ?_⟩
          walk_at "go"
          refine ⟨fun h => (neqv (shp_ints ((combF w rows fs).set 0 (d0 + f))) h).elim, fun _ => ?_⟩
          exact ⟨_, _, _, _, rfl⟩
        · rintro _ ⟨gv, dv, kv, av, rfl⟩
          walk_at "go"
          refine ⟨false, true, true, w, [], [], rfl, ⟨hw, Nat.zero_le _, fun _ h => absurd h List.not_mem_nil, rfl, fun _ h => absurd h List.not_mem_nil, fun _ h => absurd h List.not_mem_nil⟩, ?_⟩
          walk_at "go"
          refine ⟨_, w, rfl, List.length_replicate, ?_⟩
          walk_at "go"
          refine ⟨fun _ => ?_, fun h => Bool.noConfusion h⟩
          walk_at "go"
          rw [rep0]
          refine ⟨(shp_ints _).ok, ?_⟩
          walk_at "go"
          show QD (D.sh (P.bl (PyData.eqv (P.lst (pI (List.replicate w 0))).toD (P.lst (pI (List.replicate w 0))).toD))) _
          rw [(shp_ints (List.replicate w 0)).refl]
          exact q
/-! ### _law_keeping -/
abbrev s__law_keeping : Stmt := topS 17
theorem sc__law_keeping : FnScope ["row", "coefs", "modulus", "lead", "listed", "total", "k", "rests", "rest", "kept", "given", "claim", "turn", "actual"] ["row", "coefs", "modulus", "lead", "listed"] (defScope s__law_keeping) := ⟨rfl, rfl, rfl, by decide +kernel, rfl, by decide +kernel, by decide +kernel⟩
def keptF (m rest : Int) : Bool := if m = 0 then decide (rest = 0) else decide (rest % m = 0)
def fs__law_keeping : FSp := fun ds Q => ∃ (row coefs : List Int) (m lead : Int) (t : Bool), ds = [.sh (.lst (pI row)), .sh (.lst (pI coefs)), .sh (.int m), .sh (.int lead), .sh (.bl t)] ∧ (coefs.length = row.length ∧ coefs.length ≤ 1000) ∧ (∀ x ∈ coefs, Sm x) ∧ (∀ x ∈ row, Sm x) ∧ 0 ≤ m ∧ Sm m ∧ Sm lead ∧ Q (.sh (.bl true)) ds
theorem ok__law_keeping {Pg : Program} {w : World} {K : PySem.W.Frag} {mg : Str → Option Value} {base : Heap} {a : Addr} {fd : FuncData} (F : L2.Fun K "_law_keeping" "_law_keeping" s__law_keeping a fd)
    (m_sum : mg "sum" = none)
    (m_list : mg "list" = none)
    (m_range : mg "range" = none)
    (m_tuple : mg "tuple" = none)
    (m_len : mg "len" = none)
    (m_int : mg "int" = none)
    (m_isinstance : mg "isinstance" = none)
    (m_bool : mg "bool" = none)
    {a_keeps : Addr} {d_keeps : FuncData} (C_keeps : Callee Pg w K mg base 2 "keeps" a_keeps d_keeps ["row", "claim"] fs_keeps) :
    FnOk Pg w K mg base CX0 3 a fd ["row", "coefs", "modulus", "lead", "listed"] (spD K fs__law_keeping) := by
  refine Fun.okD [] F sc__law_keeping (fun ds QD h => ?_) (fun cdv A outer s H E hr => ⟨_, _, (dss_cons (ds_asg (de_cb (fun h => pe_callB (cr_sum rfl) (by rfl) m_sum (by decide +kernel) h) cs_sum (da_cons (de_o (do_lcP (own := [("k", 6)]) (n := 14) rfl sc__law_keeping.nd (di_rng1 (fun h => pi_range1 (by rfl) m_range h) (da_cons (de_cb (fun h => pe_callB call_len (by rfl) m_len PySem.boot_len h) cs_len (da_cons (de_v 0 (pv 0)) da_nil)) da_nil)) (blkOk_by (N := ["row", "coefs", "modulus", "lead", "listed", "total", "k", "rests", "rest", "kept", "given", "claim", "turn", "actual"]) (sc := defScope s__law_keeping) (own := [("k", 6)]) (by decide +kernel)) (fun _ _ _ _ _ => (dg_name (pg_name (i := 6) sc__law_keeping.nd rfl (by first | exact .inl rfl | exact .inr rfl)))) (fun _ _ _ _ _ => dts_nil) (fun _ _ _ _ _ => (de_op op_mulW os_mul (de_ix ix_seq os_ix (de_v 1 (pv 1)) (de_v 6 (pv 6))) (de_ix ix_seq os_ix (de_v 0 (pv 0)) (de_v 6 (pv 6))))))) da_nil)) (dg_name (pg_name (i := 5) sc__law_keeping.nd rfl (by first | exact .inl rfl | exact .inr rfl))))
    (dss_cons (ds_asg (de_o (do_lst (da_cons de_int (da_cons (de_v 2 (pv 2)) (da_cons (de_op op_mulW os_mul (de_un un_neg us_neg de_int) (de_v 2 (pv 2))) (da_cons de_int (da_cons (de_un un_neg us_neg de_int) (da_cons (de_op op_add os_add (de_v 2 (pv 2)) de_int) (da_cons (de_op op_sub os_sub (de_v 2 (pv 2)) de_int) (da_cons (de_op op_mulW os_mul (de_v 3 (pv 3)) (de_v 2 (pv 2))) (da_cons (de_op op_add os_add (de_op op_mulW os_mul (de_v 3 (pv 3)) (de_v 2 (pv 2))) de_int) (da_cons (de_v 3 (pv 3)) da_nil)))))))))))) (dg_name (pg_name (i := 7) sc__law_keeping.nd rfl (by first | exact .inl rfl | exact .inr rfl))))
    (dss_cons (ds_for PassesOwn.never rfl (di_seq (de_v 7 (pv 7))) (dg_name (pg_name (i := 8) sc__law_keeping.nd rfl (by first | exact .inl rfl | exact .inr rfl)))
    (dss_cons (ds_asg (de_cmp op_eq os_eq (de_v 8 (pv 8)) de_int (nomark _)) (dg_name (pg_name (i := 9) sc__law_keeping.nd rfl (by first | exact .inl rfl | exact .inr rfl))))
    (dss_mid (ds_if (dt_cmp op_gt os_gt (de_v 2 (pv 2)) de_int (nomark _))
    (dss_one (ds_asg (de_cmp op_eq os_eq (de_op op_mod os_mod (de_cb (fun h => pe_callTy call_int1 (by rfl) m_int (by decide +kernel) h) cs_int (da_cons (de_v 8 (pv 8)) da_nil)) (de_v 2 (pv 2))) de_int (nomark _)) (dg_name (pg_name (i := 9) sc__law_keeping.nd rfl (by first | exact .inl rfl | exact .inr rfl)))))
    dss_nil)
    (dss_cons (ds_asg (de_o (do_cb (fun h => pe_callTy call_list_of (by rfl) m_list (by decide +kernel) h) cs_list (da_cons (de_v 0 (pv 0)) da_nil))) (dg_name (pg_name (i := 10) sc__law_keeping.nd rfl (by first | exact .inl rfl | exact .inr rfl))))
    (dss_cons (ds_asg (de_o (do_lst (da_cons (de_o (do_cb (fun h => pe_callTy call_list_of (by rfl) m_list (by decide +kernel) h) cs_list (da_cons (de_v 1 (pv 1)) da_nil))) (da_cons (de_op op_sub os_sub (de_v 5 (pv 5)) (de_v 8 (pv 8))) (da_cons (de_v 2 (pv 2)) da_nil))))) (dg_name (pg_name (i := 11) sc__law_keeping.nd rfl (by first | exact .inl rfl | exact .inr rfl))))
    (dss_mid (ds_if (dt_not (dt_tru (de_v 4 (pv 4))))
    (dss_cons (ds_asg (de_cb (fun h => pe_callTy call_tuple_of (by rfl) m_tuple (by decide +kernel) h) cs_tuple (da_cons (de_v 0 (pv 0)) da_nil)) (dg_name (pg_name (i := 10) sc__law_keeping.nd rfl (by first | exact .inl rfl | exact .inr rfl))))
    (dss_one (ds_asg (de_tup (da_cons (de_cb (fun h => pe_callTy call_tuple_of (by rfl) m_tuple (by decide +kernel) h) cs_tuple (da_cons (de_v 1 (pv 1)) da_nil)) (da_cons (de_op op_sub os_sub (de_v 5 (pv 5)) (de_v 8 (pv 8))) (da_cons (de_v 2 (pv 2)) da_nil)))) (dg_name (pg_name (i := 11) sc__law_keeping.nd rfl (by first | exact .inl rfl | exact .inr rfl))))))
    dss_nil)
    (dss_cons (ds_for PassesOwn.never rfl (di_rng1 (fun h => pi_range1 (by rfl) m_range h) (da_cons de_int da_nil)) (dg_name (pg_name (i := 12) sc__law_keeping.nd rfl (by first | exact .inl rfl | exact .inr rfl)))
    (dss_cons (ds_asg (de_o (do_callP (fun h => pe_call C_keeps.ok hr (by rfl) C_keeps.g C_keeps.kp C_keeps.b .nil pass0 h) (da_cons (de_v 10 (pv 10)) (da_cons (de_v 11 (pv 11)) da_nil)))) (dg_name (pg_name (i := 13) sc__law_keeping.nd rfl (by first | exact .inl rfl | exact .inr rfl))))
    (dss_one (ds_if (DW.pt (dw_or (dt_not (dt_tru (de_cb (fun h => pe_callB call_isi (by rfl) m_isinstance (by decide +kernel) h) cs_isi (da_cons (de_v 13 (pv 13)) (da_cons (de_glob (p := .ty "bool") (pe_bltn (v := .ty "bool") (u := .type "bool") (by rfl) m_bool (by decide +kernel) rfl) (fun _ => rfl)) da_nil))))) (dw_or1 (dt_cmp op_ne os_ne (de_v 13 (pv 13)) (de_v 9 (pv 9)) (nomark _)))))
    (dss_one (ds_ret de_bl))
    dss_nil))))
    (dss_one (ds_if (DW.pt (dw_or (dt_cmp (op_neD hr.units) os_neD (de_o (do_cb (fun h => pe_callTy call_list_of (by rfl) m_list (by decide +kernel) h) cs_list (da_cons (de_v 10 (pv 10)) da_nil))) (de_v 0 (pv 0)) (nomark _)) (dw_or (dt_cmp (op_neD hr.units) os_neD (de_o (do_cb (fun h => pe_callTy call_list_of (by rfl) m_list (by decide +kernel) h) cs_list (da_cons (de_ix ix_seq os_ix (de_v 11 (pv 11)) de_int) da_nil))) (de_v 1 (pv 1)) (nomark _)) (dw_or1 (dt_cmp (op_neD hr.units) os_neD (de_o (do_cb (fun h => pe_callTy call_list_of (by rfl) m_list (by decide +kernel) h) cs_list (da_cons (de_slS (de_v 11 (pv 11)) (dpo_some de_int) dpo_none) da_nil))) (de_o (do_lst (da_cons (de_op op_sub os_sub (de_v 5 (pv 5)) (de_v 8 (pv 8))) (da_cons (de_v 2 (pv 2)) da_nil)))) (nomark _))))))
    (dss_one (ds_ret de_bl))
    dss_nil)))))))))
    (dss_one (ds_ret de_bl))))), fun ds QD h => ?_⟩)
  · first
      | (obtain ⟨rfl, _⟩ := h; exact ⟨rfl, rfl⟩)
      | (obtain ⟨_, rfl, _⟩ := h; exact ⟨rfl, rfl⟩)
      | (obtain ⟨_, _, rfl, _⟩ := h; exact ⟨rfl, rfl⟩)
      | (obtain ⟨_, _, _, rfl, _⟩ := h; exact ⟨rfl, rfl⟩)
      | (obtain ⟨_, _, _, _, rfl, _⟩ := h; exact ⟨rfl, rfl⟩)
      | (obtain ⟨_, _, _, _, _, rfl, _⟩ := h; exact ⟨rfl, rfl⟩)
      | (obtain ⟨_, _, _, _, _, _, rfl, _⟩ := h; exact ⟨rfl, rfl⟩)
      | (obtain ⟨_, _, _, _, _, _, _, rfl, _⟩ := h; exact ⟨rfl, rfl⟩)
      | (obtain ⟨_, _, _, _, _, _, _, _, rfl, _⟩ := h; exact ⟨rfl, rfl⟩)
      | (obtain ⟨_, _, _, _, _, _, _, _, _, rfl, _⟩ := h; exact ⟨rfl, rfl⟩)
      | (obtain ⟨_, _, _, _, _, _, _, _, _, _, rfl, _⟩ := h; exact ⟨rfl, rfl⟩)
      | (obtain ⟨_, _, _, _, _, _, _, _, _, _, _, rfl, _⟩ := h; exact ⟨rfl, rfl⟩)
  · obtain ⟨row, coefs, m, lead, t, rfl, ⟨hl, hl2⟩, s1, s2, hm, sm, sl, q⟩ := h
    obtain ⟨zs, hz⟩ : ∃ zs, zs = (coefs.zip row).map fun q => q.1 * q.2 := ⟨_, rfl⟩
    have hzl : zs.length = row.length := by rw [hz, List.length_map, List.length_zip, hl, Nat.min_self]
    have el : (pI row).length = row.length := List.length_map _
    walk_at "go"
    refine ⟨fun j acc => acc = pI (zs.take j), rfl, fun j p acc hp hI => ?_, fun acc hI => ?_⟩
    · subst hI
      obtain ⟨hj, rfl⟩ := rngP_get hp
      have hj' : j < row.length := by rw [el] at hj; simpa using hj
      obtain ⟨x, hx⟩ : ∃ x, coefs[j]? = some x := ⟨_, List.getElem?_eq_getElem (by omega)⟩
      obtain ⟨y, hy⟩ : ∃ y, row[j]? = some y := ⟨_, List.getElem?_eq_getElem hj'⟩
      walk_at "go"
      refine ⟨fun _ => ?_, fun h => Bool.noConfusion h⟩
      walk_at "go"
      refine ⟨_, atI0 hx, ?_⟩
      walk_at "go"
      refine ⟨_, atI0 hy, ?_⟩
      walk_at "go"
      refine ⟨sm_mul (s1 x (List.mem_of_getElem? hx)) (s2 y (List.mem_of_getElem? hy)), ?_⟩
      walk_at "go"
      exact (take_map (f := P.int) (by rw [hz]; exact mulz_get hx hy)).symm
    · subst hI
      have e2 : (rngP 0 ((pI row).length : Int).toNat).length = zs.length := by rw [rngP_len, hzl, el]; simp
      rw [e2, List.take_length]
      walk_at "go"
      rw [DL.ints_map]
      conv => whnf
      walk_at "go"
      refine ⟨sm_mul (sm_of 3 (by decide)) sm, ?_⟩
      walk_at "go"
      refine ⟨sm_mul sl sm, ?_⟩
      walk_at "go"
      refine ⟨sm_mul sl sm, ?_⟩
      walk_at "go"
      refine ⟨fun _ env => ∃ a b c d e f, env = [some (.sh (.lst (pI row))), some (.sh (.lst (pI coefs))), some (.sh (.int m)), some (.sh (.int lead)), some (.sh (.bl t)), some (.sh (.int zs.sum)), none, some (.sh (.lst (pI [0, m, -3 * m, 1, -1, m + 1, m - 1, lead * m, lead * m + 2, lead]))), a, b, c, d, e, f], ⟨none, none, none, none, none, none, rfl⟩, fun i p e hp hI => ?_, fun e hI => ?_⟩
      · obtain ⟨a, b, c, d, e, f, rfl⟩ := hI
        have hp' : (pI [0, m, -3 * m, 1, -1, m + 1, m - 1, lead * m, lead * m + 2, lead])[i]? = some p := hp
        obtain ⟨rest, hr, rfl⟩ := map_get hp'
        walk_at "go"
        refine ⟨fun env => env = [some (.sh (.lst (pI row))), some (.sh (.lst (pI coefs))), some (.sh (.int m)), some (.sh (.int lead)), some (.sh (.bl t)), some (.sh (.int zs.sum)), none, some (.sh (.lst (pI [0, m, -3 * m, 1, -1, m + 1, m - 1, lead * m, lead * m + 2, lead]))), some (.sh (.int rest)), some (.sh (.bl (keptF m rest))), c, d, e, f], ?_, ?_⟩
        · walk_at "go"
          refine ⟨fun h => ?_, fun h => ?_⟩
          · have hm' : 0 < m := of_decide_eq_true h
            walk_at "go"
            rw [keptF, if_neg (by omega)]
            rfl
          · have hm' : ¬ 0 < m := of_decide_eq_false h
            rw [keptF, if_pos (by omega)]
            rfl
        · rintro _ rfl
          walk_at "go"
          refine ⟨fun env => env = [some (.sh (.lst (pI row))), some (.sh (.lst (pI coefs))), some (.sh (.int m)), some (.sh (.int lead)), some (.sh (.bl t)), some (.sh (.int zs.sum)), none, some (.sh (.lst (pI [0, m, -3 * m, 1, -1, m + 1, m - 1, lead * m, lead * m + 2, lead]))), some (.sh (.int rest)), some (.sh (.bl (keptF m rest))), some (.sh (sq (!t) (pI row))), some (.sh (sq (!t) [sq (!t) (pI coefs), .int (zs.sum - rest), .int m])), e, f], ?_, ?_⟩
          · cases t
            · refine ⟨fun h => ?_, fun h => Bool.noConfusion h⟩
              walk_at "go"
              rfl
            · exact ⟨fun h => Bool.noConfusion h, fun h => rfl⟩
          · rintro _ rfl
            cases t
            · walk_at "go"
              refine ⟨fun _ env => ∃ e f, env = [some (.sh (.lst (pI row))), some (.sh (.lst (pI coefs))), some (.sh (.int m)), some (.sh (.int lead)), some (.sh (.bl false)), some (.sh (.int zs.sum)), none, some (.sh (.lst (pI [0, m, -3 * m, 1, -1, m + 1, m - 1, lead * m, lead * m + 2, lead]))), some (.sh (.int rest)), some (.sh (.bl (keptF m rest))), some (.sh (sq (!false) (pI row))), some (.sh (sq (!false) [sq (!false) (pI coefs), .int (zs.sum - rest), .int m])), e, f], ⟨_, _, rfl⟩, fun i2 p2 e2 hp2 hI2 => ?_, fun e2 hI2 => ?_⟩
              · obtain ⟨e3, f3, rfl⟩ := hI2
                obtain ⟨hi2, rfl⟩ := rngP_get hp2
                walk_at "go"
                refine ⟨true, true, true, coefs, row, zs.sum - rest, m, rfl, ⟨hl, hl2⟩, s1, s2, hm, ?_⟩
                rw [← hz, show zs.sum - (zs.sum - rest) = rest by omega]
                walk_at "go"
                refine ⟨true, by decide +kernel, ?_⟩
                walk_at "go"
                refine ⟨fun h => Bool.noConfusion h, fun _ => ?_⟩
                walk_at "go"
                refine ⟨fun h => ?_, fun _ => ⟨_, _, rfl⟩⟩
                have h' : (!decide (keptF m rest = keptF m rest)) = true := h
                rw [decide_eq_true (rfl : keptF m rest = keptF m rest)] at h'
                exact Bool.noConfusion h'
              · obtain ⟨e3, f3, rfl⟩ := hI2
                walk_at "go"
                refine ⟨fun h => (neqv (shp_ints row) h).elim, fun _ => ?_⟩
                walk_at "go"
                refine ⟨_, rfl, ?_⟩
                walk_at "go"
                refine ⟨fun h => (neqv (shp_ints coefs) h).elim, fun _ => ?_⟩
                walk_at "go"
                refine ⟨fun h => absurd h.1 (show ¬ HT.sIx 3 0 (some 1) = 0 by decide), ?_⟩
                walk_at "go"
                refine ⟨fun h => (neqv (shp_ints [zs.sum - rest, m]) h).elim, fun _ => ?_⟩
                exact ⟨_, _, _, _, _, _, rfl⟩
            · walk_at "go"
              refine ⟨fun _ env => ∃ e f, env = [some (.sh (.lst (pI row))), some (.sh (.lst (pI coefs))), some (.sh (.int m)), some (.sh (.int lead)), some (.sh (.bl true)), some (.sh (.int zs.sum)), none, some (.sh (.lst (pI [0, m, -3 * m, 1, -1, m + 1, m - 1, lead * m, lead * m + 2, lead]))), some (.sh (.int rest)), some (.sh (.bl (keptF m rest))), some (.sh (sq (!true) (pI row))), some (.sh (sq (!true) [sq (!true) (pI coefs), .int (zs.sum - rest), .int m])), e, f], ⟨_, _, rfl⟩, fun i2 p2 e2 hp2 hI2 => ?_, fun e2 hI2 => ?_⟩
              · obtain ⟨e3, f3, rfl⟩ := hI2
                obtain ⟨hi2, rfl⟩ := rngP_get hp2
                walk_at "go"
                refine ⟨false, false, false, coefs, row, zs.sum - rest, m, rfl, ⟨hl, hl2⟩, s1, s2, hm, ?_⟩
                rw [← hz, show zs.sum - (zs.sum - rest) = rest by omega]
                walk_at "go"
                refine ⟨true, by decide +kernel, ?_⟩
                walk_at "go"
                refine ⟨fun h => Bool.noConfusion h, fun _ => ?_⟩
                walk_at "go"
                refine ⟨fun h => ?_, fun _ => ⟨_, _, rfl⟩⟩
                have h' : (!decide (keptF m rest = keptF m rest)) = true := h
                rw [decide_eq_true (rfl : keptF m rest = keptF m rest)] at h'
                exact Bool.noConfusion h'
              · obtain ⟨e3, f3, rfl⟩ := hI2
                walk_at "go"
                refine ⟨fun h => (neqv (shp_ints row) h).elim, fun _ => ?_⟩
                walk_at "go"
                refine ⟨_, rfl, ?_⟩
                walk_at "go"
                refine ⟨fun h => (neqv (shp_ints coefs) h).elim, fun _ => ?_⟩
                walk_at "go"
                -- refine ⟨fun h => absurd h.1 (show ¬ HT.sIx 3 0 (some 1) = 0 by decide), ?_⟩
                -- walk_at "go"
                refine ⟨fun h => (neqv (shp_ints [zs.sum - rest, m]) h).elim, fun _ => ?_⟩
                exact ⟨_, _, _, _, _, _, rfl⟩
      · obtain ⟨a, b, c, d, e, f, rfl⟩ := hI
        exact ⟨rfl, q⟩
/-! ### law -/
abbrev s_law : Stmt := topS 18
theorem sc_law : FnScope ["script", "shape", "own_width", "many", "draws", "place", "rows", "k", "factors", "row", "coefs", "huge", "listed", "moduli"] ["script"] (defScope s_law) := ⟨rfl, rfl, rfl, by decide +kernel, rfl, by decide +kernel, by decide +kernel⟩
theorem draws_at {c : Int} {n j : Nat} (h : j < n) : ∃ d, (drawsF c n)[j]? = some d ∧ 0 ≤ d ∧ d < 1000000 :=
  ⟨_, List.getElem?_eq_getElem (by rw [drawsF_len]; exact h), drawsF_rg c n _ (List.getElem_mem _)⟩
theorem atIk {α : Type} {f : α → P} {xs : List α} {j : Nat} {x : α} (h : xs[j]? = some x) : atI (xs.map f) (j : Int) = some (f x) := atI_nat (by rw [List.getElem?_map, h]; rfl)
/-- what an entry stays within -/
def Wb (x : Int) : Prop := -(10 ^ 258 : Int) ≤ x ∧ x ≤ 10 ^ 258
theorem Wb.sm {x : Int} (h : Wb x) : Sm x := sm_of (10 ^ 258) h
theorem Wb.sm1 {x : Int} (h : Wb x) : Sm (x + 1) := sm_of (10 ^ 258 + 1) ⟨by have := h.1; omega, by have := h.2; omega⟩
theorem wset {xs : List Int} {i : Nat} {v : Int} (h : ∀ x ∈ xs, Wb x) (hv : Wb v) : ∀ x ∈ xs.set i v, Wb x := fun x hx => by
  rcases List.mem_or_eq_of_mem_set hx with h1 | h1
  · exact h x h1
  · rw [h1]; exact hv
theorem ixN_in {n : Nat} {k : Int} (h0 : 0 ≤ k) (h1 : k < n) : ixN n k = some k.toNat := by
  unfold ixN
  rw [if_pos h0, if_pos h1]
theorem atI_in {α : Type} {f : α → P} {xs : List α} {k : Int} (h0 : 0 ≤ k) (h1 : k < xs.length) : ∃ x ∈ xs, atI (xs.map f) k = some (f x) := by
  have hl : k.toNat < xs.length := by omega
  refine ⟨xs[k.toNat], List.getElem_mem _, ?_⟩
  unfold atI
  rw [List.length_map, ixN_in h0 h1]
  show (xs.map f)[k.toNat]? = _
  rw [List.getElem?_map, List.getElem?_eq_getElem hl]; rfl
def fs_law : FSp := fun ds Q => ∃ ns : List Int, ds = [.sh (.rol (ns.map P.int))] ∧ ns.length ≤ 63 ∧ ∀ ds', Q (.sh (.bl true)) ds'
theorem ok_law {Pg : Program} {w : World} {K : PySem.W.Frag} {mg : Str → Option Value} {base : Heap} {a : Addr} {fd : FuncData} (F : L2.Fun K "law" "law" s_law a fd)
    (m_int : mg "int" = none)
    (m_abs : mg "abs" = none)
    (m_range : mg "range" = none)
    {a__law_draws : Addr} {d__law_draws : FuncData} (C__law_draws : Callee Pg w K mg base 1 "_law_draws" a__law_draws d__law_draws ["cell", "many"] fs__law_draws)
    {a__law_row : Addr} {d__law_row : FuncData} (C__law_row : Callee Pg w K mg base 2 "_law_row" a__law_row d__law_row ["draws", "place", "own_width"] fs__law_row)
    {a__law_huge : Addr} {d__law_huge : FuncData} (C__law_huge : Callee Pg w K mg base 2 "_law_huge" a__law_huge d__law_huge ["cell"] fs__law_huge)
    {a__law_keeping : Addr} {d__law_keeping : FuncData} (C__law_keeping : Callee Pg w K mg base 3 "_law_keeping" a__law_keeping d__law_keeping ["row", "coefs", "modulus", "lead", "listed"] fs__law_keeping)
    {a__law_cell : Addr} {d__law_cell : FuncData} (C__law_cell : Callee Pg w K mg base 1 "_law_cell" a__law_cell d__law_cell ["script", "k"] fs__law_cell)
    {a__law_combines : Addr} {d__law_combines : FuncData} (C__law_combines : Callee Pg w K mg base 3 "_law_combines" a__law_combines d__law_combines ["rows", "factors", "own_width", "listed"] fs__law_combines)
    {a__law_number : Addr} {d__law_number : FuncData} (C__law_number : Callee Pg w K mg base 1 "_law_number" a__law_number d__law_number ["draw"] fs__law_number) :
    FnOk Pg w K mg base CX0 4 a fd ["script"] (spD K fs_law) := by
  refine Fun.okD [] F sc_law (fun ds QD h => ?_) (fun cdv A outer s H E hr => ⟨_, _, (dss_cons (ds_asg (de_o (do_callP (fun h => pe_call C__law_draws.ok (hr.mono (by decide)) (by rfl) C__law_draws.g C__law_draws.kp C__law_draws.b .nil pass0 h) (da_cons (de_o (do_callP (fun h => pe_call C__law_cell.ok (hr.mono (by decide)) (by rfl) C__law_cell.g C__law_cell.kp C__law_cell.b .nil pass0 h) (da_cons (de_v 0 (pv 0)) (da_cons de_int da_nil)))) (da_cons de_int da_nil)))) (dg_name (pg_name (i := 1) sc_law.nd rfl (by first | exact .inl rfl | exact .inr rfl))))
    (dss_cons (ds_asg (de_op op_mod os_mod (de_cb (fun h => pe_callTy call_int1 (by rfl) m_int (by decide +kernel) h) cs_int (da_cons (de_ix ix_seq os_ix (de_v 1 (pv 1)) de_int) da_nil)) de_int) (dg_name (pg_name (i := 2) sc_law.nd rfl (by first | exact .inl rfl | exact .inr rfl))))
    (dss_mid (ds_if (dt_cmp op_eq os_eq (de_op op_mod os_mod (de_cb (fun h => pe_callTy call_int1 (by rfl) m_int (by decide +kernel) h) cs_int (da_cons (de_ix ix_seq os_ix (de_v 1 (pv 1)) de_int) da_nil)) de_int) de_int (nomark _))
    (dss_one (ds_asg (de_op op_mod os_mod (de_cb (fun h => pe_callTy call_int1 (by rfl) m_int (by decide +kernel) h) cs_int (da_cons (de_ix ix_seq os_ix (de_v 1 (pv 1)) de_int) da_nil)) de_int) (dg_name (pg_name (i := 2) sc_law.nd rfl (by first | exact .inl rfl | exact .inr rfl)))))
    dss_nil)
    (dss_cons (ds_asg (de_op op_mod os_mod (de_cb (fun h => pe_callTy call_int1 (by rfl) m_int (by decide +kernel) h) cs_int (da_cons (de_ix ix_seq os_ix (de_v 1 (pv 1)) de_int) da_nil)) de_int) (dg_name (pg_name (i := 3) sc_law.nd rfl (by first | exact .inl rfl | exact .inr rfl))))
    (dss_mid (ds_if (dt_cmp op_eq os_eq (de_op op_mod os_mod (de_cb (fun h => pe_callTy call_int1 (by rfl) m_int (by decide +kernel) h) cs_int (da_cons (de_ix ix_seq os_ix (de_v 1 (pv 1)) de_int) da_nil)) de_int) de_int (nomark _))
    (dss_one (ds_asg (de_op op_add os_add (de_v 3 (pv 3)) de_int) (dg_name (pg_name (i := 3) sc_law.nd rfl (by first | exact .inl rfl | exact .inr rfl)))))
    dss_nil)
    (dss_cons (ds_asg (de_o (do_callP (fun h => pe_call C__law_draws.ok (hr.mono (by decide)) (by rfl) C__law_draws.g C__law_draws.kp C__law_draws.b .nil pass0 h) (da_cons (de_o (do_callP (fun h => pe_call C__law_cell.ok (hr.mono (by decide)) (by rfl) C__law_cell.g C__law_cell.kp C__law_cell.b .nil pass0 h) (da_cons (de_v 0 (pv 0)) (da_cons de_int da_nil)))) (da_cons (de_op op_mulW os_mul (de_v 3 (pv 3)) (de_v 2 (pv 2))) da_nil)))) (dg_name (pg_name (i := 4) sc_law.nd rfl (by first | exact .inl rfl | exact .inr rfl))))
    (dss_cons (ds_put (do_lst (da_cons de_int da_nil)) (pg_name (i := 5) sc_law.nd rfl (by first | exact .inl rfl | exact .inr rfl)))
    (dss_cons (ds_setLcO (own := [("k", 7)]) (i := 6) (n := 14) rfl sc_law.nd rfl rfl (sw_true rfl rfl rfl (by decide +kernel)) (by decide) (di_rng1 (fun h => pi_range1 (by rfl) m_range h) (da_cons (de_v 3 (pv 3)) da_nil)) (blkOk_by (N := ["script", "shape", "own_width", "many", "draws", "place", "rows", "k", "factors", "row", "coefs", "huge", "listed", "moduli"]) (sc := defScope s_law) (own := [("k", 7)]) (by decide +kernel)) (fun _ _ _ _ _ => (dg_name (pg_name (i := 7) sc_law.nd rfl (by first | exact .inl rfl | exact .inr rfl)))) (fun _ _ _ _ _ => (do_call (m := false) (fun h => pe_call C__law_row.ok (hr.mono (by decide)) (by rfl) C__law_row.g C__law_row.kp C__law_row.b .nil pass0 h) (da_cons (de_v 4 (pv 4)) (da_slot (pv 5) (da_cons (de_v 2 (pv 2)) da_nil))))))
    (dss_cons (ds_put (do_callF (fun h => pe_call C__law_row.ok (hr.mono (by decide)) (by rfl) C__law_row.g C__law_row.kp C__law_row.b .nil pass0 h) (da_there (m := false) (de_o (do_callP (fun h => pe_call C__law_draws.ok (hr.mono (by decide)) (by rfl) C__law_draws.g C__law_draws.kp C__law_draws.b .nil pass0 h) (da_cons (de_op op_add os_add (de_o (do_callP (fun h => pe_call C__law_cell.ok (hr.mono (by decide)) (by rfl) C__law_cell.g C__law_cell.kp C__law_cell.b .nil pass0 h) (da_cons (de_v 0 (pv 0)) (da_cons de_int da_nil)))) de_int) (da_cons (de_v 3 (pv 3)) da_nil)))) (da_here (do_lst (da_cons de_int da_nil)) (da_cons (de_v 3 (pv 3)) da_nil)))) (pg_name (i := 8) sc_law.nd rfl (by first | exact .inl rfl | exact .inr rfl)))
    (dss_cons (ds_put (do_callF (fun h => pe_call C__law_row.ok (hr.mono (by decide)) (by rfl) C__law_row.g C__law_row.kp C__law_row.b .nil pass0 h) (da_there (m := false) (de_o (do_callP (fun h => pe_call C__law_draws.ok (hr.mono (by decide)) (by rfl) C__law_draws.g C__law_draws.kp C__law_draws.b .nil pass0 h) (da_cons (de_op op_add os_add (de_o (do_callP (fun h => pe_call C__law_cell.ok (hr.mono (by decide)) (by rfl) C__law_cell.g C__law_cell.kp C__law_cell.b .nil pass0 h) (da_cons (de_v 0 (pv 0)) (da_cons de_int da_nil)))) de_int) (da_cons (de_v 2 (pv 2)) da_nil)))) (da_here (do_lst (da_cons de_int da_nil)) (da_cons (de_v 2 (pv 2)) da_nil)))) (pg_name (i := 9) sc_law.nd rfl (by first | exact .inl rfl | exact .inr rfl)))
    (dss_cons (ds_asg (de_o (do_callF (fun h => pe_call C__law_row.ok (hr.mono (by decide)) (by rfl) C__law_row.g C__law_row.kp C__law_row.b .nil pass0 h) (da_there (m := false) (de_o (do_callP (fun h => pe_call C__law_draws.ok (hr.mono (by decide)) (by rfl) C__law_draws.g C__law_draws.kp C__law_draws.b .nil pass0 h) (da_cons (de_op op_add os_add (de_o (do_callP (fun h => pe_call C__law_cell.ok (hr.mono (by decide)) (by rfl) C__law_cell.g C__law_cell.kp C__law_cell.b .nil pass0 h) (da_cons (de_v 0 (pv 0)) (da_cons de_int da_nil)))) de_int) (da_cons (de_v 2 (pv 2)) da_nil)))) (da_here (do_lst (da_cons de_int da_nil)) (da_cons (de_v 2 (pv 2)) da_nil))))) (dg_name (pg_name (i := 10) sc_law.nd rfl (by first | exact .inl rfl | exact .inr rfl))))
    (dss_cons (ds_asg (de_o (do_callP (fun h => pe_call C__law_huge.ok (hr.mono (by decide)) (by rfl) C__law_huge.g C__law_huge.kp C__law_huge.b .nil pass0 h) (da_cons (de_o (do_callP (fun h => pe_call C__law_cell.ok (hr.mono (by decide)) (by rfl) C__law_cell.g C__law_cell.kp C__law_cell.b .nil pass0 h) (da_cons (de_v 0 (pv 0)) (da_cons de_int da_nil)))) da_nil))) (dg_name (pg_name (i := 11) sc_law.nd rfl (by first | exact .inl rfl | exact .inr rfl))))
    (dss_mid (ds_if (DW.pt (dw_and (dt_cmp op_eq os_eq (de_op op_mod os_mod (de_cb (fun h => pe_callTy call_int1 (by rfl) m_int (by decide +kernel) h) cs_int (da_cons (de_ix ix_seq os_ix (de_v 1 (pv 1)) de_int) da_nil)) de_int) de_int (nomark _)) (dw_and1 (dt_cmp op_gt os_gt (de_v 2 (pv 2)) de_int (nomark _)))))
    (dss_one (ds_setI (fun h => pg_sub (pv 9) h set_list) (de_op op_mod os_mod (de_cb (fun h => pe_callTy call_int1 (by rfl) m_int (by decide +kernel) h) cs_int (da_cons (de_ix ix_seq os_ix (de_v 1 (pv 1)) de_int) da_nil)) (de_v 2 (pv 2))) (de_v 11 (pv 11))))
    dss_nil)
    (dss_mid (ds_if (DW.pt (dw_and (dt_cmp op_eq os_eq (de_op op_mod os_mod (de_cb (fun h => pe_callTy call_int1 (by rfl) m_int (by decide +kernel) h) cs_int (da_cons (de_op op_fdivW os_div (de_ix ix_seq os_ix (de_v 1 (pv 1)) de_int) de_int) da_nil)) de_int) de_int (nomark _)) (dw_and (dt_cmp op_gt os_gt (de_v 2 (pv 2)) de_int (nomark _)) (dw_and1 (dt_cmp op_gt os_gt (de_v 3 (pv 3)) de_int (nomark _))))))
    (dss_one (ds_setII (fun h hj => pg_sub (pe_ix ix_list (pv 6) hj (fun _ _ => rfl)) h set_list) (de_op op_mod os_mod (de_cb (fun h => pe_callTy call_int1 (by rfl) m_int (by decide +kernel) h) cs_int (da_cons (de_ix ix_seq os_ix (de_v 1 (pv 1)) de_int) da_nil)) (de_v 3 (pv 3))) (de_op op_mod os_mod (de_cb (fun h => pe_callTy call_int1 (by rfl) m_int (by decide +kernel) h) cs_int (da_cons (de_ix ix_seq os_ix (de_v 1 (pv 1)) de_int) da_nil)) (de_v 2 (pv 2))) (de_un un_neg us_neg (de_v 11 (pv 11)))))
    dss_nil)
    (dss_mid (ds_if (DW.pt (dw_and (dt_cmp op_eq os_eq (de_op op_mod os_mod (de_cb (fun h => pe_callTy call_int1 (by rfl) m_int (by decide +kernel) h) cs_int (da_cons (de_op op_fdivW os_div (de_ix ix_seq os_ix (de_v 1 (pv 1)) de_int) de_int) da_nil)) de_int) de_int (nomark _)) (dw_and1 (dt_cmp op_gt os_gt (de_v 3 (pv 3)) de_int (nomark _)))))
    (dss_one (ds_setI (fun h => pg_sub (pv 8) h set_list) (de_op op_mod os_mod (de_cb (fun h => pe_callTy call_int1 (by rfl) m_int (by decide +kernel) h) cs_int (da_cons (de_ix ix_seq os_ix (de_v 1 (pv 1)) de_int) da_nil)) (de_v 3 (pv 3))) (de_v 11 (pv 11))))
    dss_nil)
    (dss_cons (ds_asg (de_cmp op_eq os_eq (de_op op_mod os_mod (de_cb (fun h => pe_callTy call_int1 (by rfl) m_int (by decide +kernel) h) cs_int (da_cons (de_ix ix_seq os_ix (de_v 1 (pv 1)) de_int) da_nil)) de_int) de_int (nomark _)) (dg_name (pg_name (i := 12) sc_law.nd rfl (by first | exact .inl rfl | exact .inr rfl))))
    (dss_cons (ds_if (dt_not (dt_tru (de_o (do_callP (fun h => pe_call C__law_combines.ok hr (by rfl) C__law_combines.g C__law_combines.kp C__law_combines.b .nil pass0 h) (da_cons (de_vF 6 (pv 6)) (da_cons (de_vF 8 (pv 8)) (da_cons (de_v 2 (pv 2)) (da_cons (de_v 12 (pv 12)) da_nil))))))))
    (dss_one (ds_ret de_bl))
    dss_nil)
    (dss_cons (ds_asg (de_o (do_lst (da_cons de_int (da_cons de_int (da_cons (de_op op_add os_add de_int (de_op op_mod os_mod (de_cb (fun h => pe_callTy call_int1 (by rfl) m_int (by decide +kernel) h) cs_int (da_cons (de_op op_fdivW os_div (de_ix ix_seq os_ix (de_v 1 (pv 1)) de_int) de_int) da_nil)) de_int)) (da_cons (de_op op_add os_add de_int (de_op op_mod os_mod (de_cb (fun h => pe_callTy call_int1 (by rfl) m_int (by decide +kernel) h) cs_int (da_cons (de_op op_fdivW os_div (de_ix ix_seq os_ix (de_v 1 (pv 1)) de_int) de_int) da_nil)) de_int)) (da_cons (de_cb (fun h => pe_callB call_abs (by rfl) m_abs (by decide +kernel) h) cs_abs (da_cons (de_o (do_callP (fun h => pe_call C__law_number.ok (hr.mono (by decide)) (by rfl) C__law_number.g C__law_number.kp C__law_number.b .nil pass0 h) (da_cons (de_ix ix_seq os_ix (de_v 1 (pv 1)) de_int) da_nil))) da_nil)) (da_cons (de_v 11 (pv 11)) da_nil)))))))) (dg_name (pg_name (i := 13) sc_law.nd rfl (by first | exact .inl rfl | exact .inr rfl))))
    (dss_one (ds_ret (de_o (do_callP (fun h => pe_call C__law_keeping.ok hr (by rfl) C__law_keeping.g C__law_keeping.kp C__law_keeping.b .nil pass0 h) (da_cons (de_vF 9 (pv 9)) (da_cons (de_v 10 (pv 10)) (da_cons (de_ix ix_seq os_ix (de_v 13 (pv 13)) (de_op op_mod os_mod (de_cb (fun h => pe_callTy call_int1 (by rfl) m_int (by decide +kernel) h) cs_int (da_cons (de_ix ix_seq os_ix (de_v 1 (pv 1)) de_int) da_nil)) de_int)) (da_cons (de_o (do_callP (fun h => pe_call C__law_number.ok (hr.mono (by decide)) (by rfl) C__law_number.g C__law_number.kp C__law_number.b .nil pass0 h) (da_cons (de_ix ix_seq os_ix (de_v 1 (pv 1)) de_int) da_nil))) (da_cons (de_v 12 (pv 12)) da_nil))))))))))))))))))))))))))), fun ds QD h => ?_⟩)
  · first
      | (obtain ⟨rfl, _⟩ := h; exact ⟨rfl, rfl⟩)
      | (obtain ⟨_, rfl, _⟩ := h; exact ⟨rfl, rfl⟩)
      | (obtain ⟨_, _, rfl, _⟩ := h; exact ⟨rfl, rfl⟩)
      | (obtain ⟨_, _, _, rfl, _⟩ := h; exact ⟨rfl, rfl⟩)
      | (obtain ⟨_, _, _, _, rfl, _⟩ := h; exact ⟨rfl, rfl⟩)
      | (obtain ⟨_, _, _, _, _, rfl, _⟩ := h; exact ⟨rfl, rfl⟩)
      | (obtain ⟨_, _, _, _, _, _, rfl, _⟩ := h; exact ⟨rfl, rfl⟩)
      | (obtain ⟨_, _, _, _, _, _, _, rfl, _⟩ := h; exact ⟨rfl, rfl⟩)
      | (obtain ⟨_, _, _, _, _, _, _, _, rfl, _⟩ := h; exact ⟨rfl, rfl⟩)
      | (obtain ⟨_, _, _, _, _, _, _, _, _, rfl, _⟩ := h; exact ⟨rfl, rfl⟩)
      | (obtain ⟨_, _, _, _, _, _, _, _, _, _, rfl, _⟩ := h; exact ⟨rfl, rfl⟩)
      | (obtain ⟨_, _, _, _, _, _, _, _, _, _, _, rfl, _⟩ := h; exact ⟨rfl, rfl⟩)
  · obtain ⟨ns, rfl, hl, q⟩ := h
    walk_at "go"
    refine ⟨ns, 0, rfl, ?_⟩
    walk_at "go"
    refine ⟨_, 13, rfl, by decide, ?_⟩
    generalize ns.getD 0 0 = c0
    obtain ⟨s0, e0, b0, t0⟩ := draws_at (c := c0) (show 0 < 13 by decide)
    obtain ⟨s1, e1, b1, t1⟩ := draws_at (c := c0) (show 1 < 13 by decide)
    obtain ⟨s2, e2, b2, t2⟩ := draws_at (c := c0) (show 2 < 13 by decide)
    obtain ⟨s3, e3, b3, t3⟩ := draws_at (c := c0) (show 3 < 13 by decide)
    obtain ⟨s4, e4, b4, t4⟩ := draws_at (c := c0) (show 4 < 13 by decide)
    obtain ⟨s5, e5, b5, t5⟩ := draws_at (c := c0) (show 5 < 13 by decide)
    obtain ⟨s6, e6, b6, t6⟩ := draws_at (c := c0) (show 6 < 13 by decide)
    obtain ⟨s7, e7, b7, t7⟩ := draws_at (c := c0) (show 7 < 13 by decide)
    obtain ⟨s8, e8, b8, t8⟩ := draws_at (c := c0) (show 8 < 13 by decide)
    obtain ⟨s9, e9, b9, t9⟩ := draws_at (c := c0) (show 9 < 13 by decide)
    obtain ⟨s10, e10, b10, t10⟩ := draws_at (c := c0) (show 10 < 13 by decide)
    obtain ⟨s11, e11, b11, t11⟩ := draws_at (c := c0) (show 11 < 13 by decide)
    obtain ⟨s12, e12, b12, t12⟩ := draws_at (c := c0) (show 12 < 13 by decide)
    generalize drawsF c0 13 = sh at e0 e1 e2 e3 e4 e5 e6 e7 e8 e9 e10 e11 e12
    walk_at "go"
    refine ⟨_, atIk e0, ?_⟩
    walk_at "go"
    refine ⟨fun env => ∃ w : Nat, w ≤ 16 ∧ env = [some (.sh (.rol (pI ns))), some (.sh (.lst (pI sh))), some (.sh (.int (w : Int))), none, none, none, none, none, none, none, none, none, none, none], ?_, ?_⟩
    · walk_at "go"
      refine ⟨_, atIk e1, ?_⟩
      walk_at "go"
      refine ⟨fun _ => ?_, fun _ => ⟨(s0 % 6).toNat, by omega, by rw [Int.toNat_of_nonneg (by omega)]; rfl⟩⟩
      walk_at "go"
      refine ⟨_, atIk e0, ?_⟩
      walk_at "go"
      exact ⟨(s0 % 17).toNat, by omega, by rw [Int.toNat_of_nonneg (by omega)]; rfl⟩
    · rintro _ ⟨w, hw, rfl⟩
      walk_at "go"
      refine ⟨_, atIk e2, ?_⟩
      walk_at "go"
      refine ⟨fun env => ∃ n : Nat, n ≤ 60 ∧ env = [some (.sh (.rol (pI ns))), some (.sh (.lst (pI sh))), some (.sh (.int (w : Int))), some (.sh (.int (n : Int))), none, none, none, none, none, none, none, none, none, none], ?_, ?_⟩
      · walk_at "go"
        refine ⟨_, atIk e3, ?_⟩
        walk_at "go"
        refine ⟨fun _ => ?_, fun _ => ⟨(s2 % 7).toNat, by omega, by rw [Int.toNat_of_nonneg (by omega)]; rfl⟩⟩
        walk_at "go"
        exact ⟨(s2 % 7 + 54).toNat, by omega, by rw [Int.toNat_of_nonneg (by omega)]; rfl⟩
      · rintro _ ⟨n, hn, rfl⟩
        walk_at "go"
        refine ⟨ns, 1, rfl, ?_⟩
        walk_at "go"
        have hnw : n * w ≤ 100000 := Nat.le_trans (Nat.mul_le_mul hn hw) (by decide)
        refine ⟨_, n * w, by rw [Int.natCast_mul]; rfl, hnw, ?_⟩
        generalize ns.getD 1 0 = c1
        walk_at "go"
        refine ⟨fun i acc env => ∃ rs : List (List Int), acc = rs.map pI ∧ rs.length = i ∧ (∀ r ∈ rs, r.length = w ∧ ∀ x ∈ r, -(10 ^ 30 : Int) ≤ x ∧ x ≤ 10 ^ 30) ∧ env = [some (.sh (.rol (pI ns))), some (.sh (.lst (pI sh))), some (.sh (.int (w : Int))), some (.sh (.int (n : Int))), some (.sh (.lst (pI (drawsF c1 (n * w))))), some (.ol [.int ((i * w : Nat) : Int)]), none, none, none, none, none, none, none, none], ⟨[], rfl, rfl, fun _ h => absurd h List.not_mem_nil, by rw [Nat.zero_mul]; rfl⟩, fun i p acc e hp hI => ?_, fun acc e hI => ?_⟩
        · obtain ⟨rs, rfl, hrl, hrs, rfl⟩ := hI
          obtain ⟨hi, rfl⟩ := rngP_get hp
          have hi' : i < n := by simpa using hi
          walk_at "go"
          refine ⟨_, i * w, w, rfl, ⟨by omega, drawsF_rg _ _⟩, fun xs hxl hxb => ?_⟩
          walk_at "go"
          refine ⟨_, rfl, rs ++ [xs], by rw [List.map_append]; rfl, by rw [List.length_append, hrl]; rfl, fun r hr => ?_, by rw [Nat.succ_mul]; rfl⟩
          rcases List.mem_append.mp hr with h | h
          · exact hrs r h
          · rw [List.mem_singleton.mp h]; exact ⟨hxl, hxb⟩
        · obtain ⟨rs, rfl, hrl, hrs, rfl⟩ := hI
          have hrl' : rs.length = n := by rw [hrl, rngP_len]; simp
          generalize (D.ol [P.int (((rngP 0 (n : Int).toNat).length * w : Nat) : Int)]) = pl
          walk_at "go"
          refine ⟨ns, 2, rfl, ?_⟩
          walk_at "go"
          refine ⟨_, n, rfl, by omega, ?_⟩
          walk_at "go"
          refine ⟨_, 0, n, rfl, ⟨by omega, drawsF_rg _ _⟩, fun fs hfl hfb => ?_⟩
          walk_at "go"
          refine ⟨ns, 3, rfl, ?_⟩
          walk_at "go"
          refine ⟨_, w, rfl, by omega, ?_⟩
          walk_at "go"
          refine ⟨_, 0, w, rfl, ⟨by omega, drawsF_rg _ _⟩, fun row hwl hwb => ?_⟩
          walk_at "go"
          refine ⟨ns, 4, rfl, ?_⟩
          walk_at "go"
          refine ⟨_, w, rfl, by omega, ?_⟩
          walk_at "go"
          refine ⟨_, 0, w, rfl, ⟨by omega, drawsF_rg _ _⟩, fun coefs hcl hcb => ?_⟩
          walk_at "go"
          refine ⟨ns, 5, rfl, ?_⟩
          walk_at "go"
          refine ⟨_, rfl, fun hg hgb => ?_⟩
          have wB : ∀ x : Int, -(10 ^ 30 : Int) ≤ x ∧ x ≤ 10 ^ 30 → Wb x := fun x h => ⟨by omega, by omega⟩
          have wF : ∀ x ∈ fs, Wb x := fun x h => wB x (hfb x h)
          have wR : ∀ x ∈ row, Wb x := fun x h => wB x (hwb x h)
          have wC : ∀ x ∈ coefs, Wb x := fun x h => wB x (hcb x h)
          have wS : ∀ r ∈ rs, r.length = w ∧ ∀ x ∈ r, Wb x := fun r h => ⟨(hrs r h).1, fun x hx => wB x ((hrs r h).2 x hx)⟩
          have wH : Wb hg := ⟨by omega, by omega⟩
          have wN : Wb (-hg) := ⟨by omega, by omega⟩
          clear hfb hwb hcb hrs hrl
          walk_at "go"
          refine ⟨fun env => ∃ row : List Int, row.length = w ∧ (∀ x ∈ row, Wb x) ∧ env = [some (.sh (.rol (pI ns))), some (.sh (.lst (pI sh))), some (.sh (.int (w : Int))), some (.sh (.int (n : Int))), some (.sh (.lst (pI (drawsF c1 (n * w))))), some pl, some (.oll (rs.map pI)), none, some (.ol (pI fs)), some (.ol (pI row)), some (.sh (.lst (pI coefs))), some (.sh (.int hg)), none, none], ?_, ?_⟩
          · walk_at "go"
            refine ⟨_, atIk e4, ?_⟩
            walk_at "go"
            refine ⟨fun _ => ?_, fun _ => ⟨fun h => Bool.noConfusion h, fun _ => ⟨row, hwl, wR, rfl⟩⟩⟩
            walk_at "go"
            refine ⟨fun h => ?_, fun _ => ⟨row, hwl, wR, rfl⟩⟩
            have hw0 : 0 < (w : Int) := of_decide_eq_true h
            walk_at "go"
            refine ⟨_, atIk e5, ?_⟩
            have m0 := Int.emod_nonneg s5 (Int.ne_of_gt hw0)
            have m1 := Int.emod_lt_of_pos s5 hw0
            walk_at "go"
            refine ⟨(s5 % (w : Int)).toNat, by rw [List.length_map, hwl]; exact ixN_in m0 m1, ?_⟩
            exact ⟨row.set (s5 % (w : Int)).toNat hg, by rw [List.length_set]; exact hwl, wset wR wH, by rw [show pI (row.set (s5 % (w : Int)).toNat hg) = (pI row).set (s5 % (w : Int)).toNat (.int hg) by rw [pI, pI, List.map_set]]; rfl⟩
          · clear wR hwl
            rintro _ ⟨row, hwl, wR, rfl⟩
            walk_at "go"
            refine ⟨fun env => ∃ rs : List (List Int), rs.length = n ∧ (∀ r ∈ rs, r.length = w ∧ ∀ x ∈ r, Wb x) ∧ env = [some (.sh (.rol (pI ns))), some (.sh (.lst (pI sh))), some (.sh (.int (w : Int))), some (.sh (.int (n : Int))), some (.sh (.lst (pI (drawsF c1 (n * w))))), some pl, some (.oll (rs.map pI)), none, some (.ol (pI fs)), some (.ol (pI row)), some (.sh (.lst (pI coefs))), some (.sh (.int hg)), none, none], ?_, ?_⟩
            · walk_at "go"
              refine ⟨_, atIk e4, ?_⟩
              walk_at "go"
              refine ⟨fun _ => ?_, fun _ => ⟨fun h => Bool.noConfusion h, fun _ => ⟨rs, hrl', wS, rfl⟩⟩⟩
              walk_at "go"
              refine ⟨fun h => ?_, fun _ => ⟨fun h => Bool.noConfusion h, fun _ => ⟨rs, hrl', wS, rfl⟩⟩⟩
              have hw0 : 0 < (w : Int) := of_decide_eq_true h
              walk_at "go"
              refine ⟨fun h => ?_, fun _ => ⟨rs, hrl', wS, rfl⟩⟩
              have hn0 : 0 < (n : Int) := of_decide_eq_true h
              have m0 := Int.emod_nonneg s6 (Int.ne_of_gt hn0)
              have m1 := Int.emod_lt_of_pos s6 hn0
              have m2 := Int.emod_nonneg s7 (Int.ne_of_gt hw0)
              have m3 := Int.emod_lt_of_pos s7 hw0
              obtain ⟨r, hr⟩ : ∃ r, rs[(s6 % (n : Int)).toNat]? = some r := ⟨_, List.getElem?_eq_getElem (by omega)⟩
              have hrw := wS r (List.mem_of_getElem? hr)
              walk_at "go"
              refine ⟨_, atIk e6, ?_⟩
              walk_at "go"
              refine ⟨(s6 % (n : Int)).toNat, pI r, by rw [List.length_map, hrl']; exact ixN_in m0 m1, by rw [List.getElem?_map, hr]; rfl, ?_⟩
              walk_at "go"
              refine ⟨_, atIk e7, ?_⟩
              walk_at "go"
              refine ⟨rfl, (s7 % (w : Int)).toNat, by rw [List.length_map, hrw.1]; exact ixN_in m2 m3, ?_⟩
              refine ⟨rs.set (s6 % (n : Int)).toNat (r.set (s7 % (w : Int)).toNat (-hg)), by rw [List.length_set]; exact hrl', fun x hx => ?_, ?_⟩
              · rcases List.mem_or_eq_of_mem_set hx with h1 | h1
                · exact wS x h1
                · rw [h1, List.length_set]; exact ⟨hrw.1, wset hrw.2 wN⟩
              · rw [show (rs.set (s6 % (n : Int)).toNat (r.set (s7 % (w : Int)).toNat (-hg))).map pI = (rs.map pI).set (s6 % (n : Int)).toNat ((pI r).set (s7 % (w : Int)).toNat (.int (-hg))) by rw [List.map_set, pI, pI, List.map_set]]
                rfl
            · clear wS hrl'
              rintro _ ⟨rs, hrl, wS, rfl⟩
              walk_at "go"
              refine ⟨fun env => ∃ fs : List Int, fs.length = n ∧ (∀ x ∈ fs, Wb x) ∧ env = [some (.sh (.rol (pI ns))), some (.sh (.lst (pI sh))), some (.sh (.int (w : Int))), some (.sh (.int (n : Int))), some (.sh (.lst (pI (drawsF c1 (n * w))))), some pl, some (.oll (rs.map pI)), none, some (.ol (pI fs)), some (.ol (pI row)), some (.sh (.lst (pI coefs))), some (.sh (.int hg)), none, none], ?_, ?_⟩
              · walk_at "go"
                refine ⟨_, atIk e4, ?_⟩
                walk_at "go"
                refine ⟨fun _ => ?_, fun _ => ⟨fun h => Bool.noConfusion h, fun _ => ⟨fs, hfl, wF, rfl⟩⟩⟩
                walk_at "go"
                refine ⟨fun h => ?_, fun _ => ⟨fs, hfl, wF, rfl⟩⟩
                have hn0 : 0 < (n : Int) := of_decide_eq_true h
                have m0 := Int.emod_nonneg s8 (Int.ne_of_gt hn0)
                have m1 := Int.emod_lt_of_pos s8 hn0
                walk_at "go"
                refine ⟨_, atIk e8, ?_⟩
                walk_at "go"
                refine ⟨(s8 % (n : Int)).toNat, by rw [List.length_map, hfl]; exact ixN_in m0 m1, ?_⟩
                exact ⟨fs.set (s8 % (n : Int)).toNat hg, by rw [List.length_set]; exact hfl, wset wF wH, by rw [show pI (fs.set (s8 % (n : Int)).toNat hg) = (pI fs).set (s8 % (n : Int)).toNat (.int hg) by rw [pI, pI, List.map_set]]; rfl⟩
              · clear wF hfl
                rintro _ ⟨fs, hfl, wF, rfl⟩
                walk_at "go"
                refine ⟨_, atIk e9, ?_⟩
                walk_at "go"
                generalize decide (s9 % 2 = 0) = bb
                refine ⟨bb, w, rs, fs, congrArg (fun z => [D.sh z, D.sh (.lst (pI fs)), D.sh (.int (w : Int)), D.sh (.bl bb)]) (frz_oll rs), ⟨by omega, by omega, fun r h => (wS r h).1, by rw [hfl, hrl], fun x h => (wF x h).sm, fun r h x hx => ((wS r h).2 x hx).sm⟩, fun r h x hx => ((wS r h).2 x hx).sm1, ?_⟩
                walk_at "go"
                refine ⟨fun h => Bool.noConfusion h, fun _ => ?_⟩
                walk_at "go"
                refine ⟨_, atIk e10, ?_⟩
                walk_at "go"
                refine ⟨_, atIk e10, ?_⟩
                walk_at "go"
                refine ⟨_, atIk e11, ?_⟩
                walk_at "go"
                refine ⟨s11, rfl, ⟨b11, t11⟩, fun v1 hv1 => ?_⟩
                walk_at "go"
                refine ⟨_, atIk e10, ?_⟩
                walk_at "go"
                have hab : 0 ≤ (if v1 < 0 then -v1 else v1) ∧ (if v1 < 0 then -v1 else v1) ≤ 10 ^ 30 := by split <;> omega
                obtain ⟨mm, hmm, hat⟩ := atI_in (f := P.int) (xs := [0, 1, 2 + s10 / 6 % 12, 2 + s10 / 6 % 12, if v1 < 0 then -v1 else v1, hg]) (k := s10 % 6) (by omega) (by show s10 % 6 < 6; omega)
                have hm2 : 0 ≤ mm ∧ Wb mm := by
                  have key : 0 ≤ mm ∧ -(10 ^ 258 : Int) ≤ mm ∧ mm ≤ 10 ^ 258 := by
                    simp only [List.mem_cons, List.not_mem_nil, or_false] at hmm
                    rcases hmm with h | h | h | h | h | h <;> omega
                  exact key
                refine ⟨_, hat, ?_⟩
                walk_at "go"
                refine ⟨_, atIk e12, ?_⟩
                walk_at "go"
                refine ⟨s12, rfl, ⟨b12, t12⟩, fun v2 hv2 => ?_⟩
                walk_at "go"
                refine ⟨row, coefs, mm, v2, bb, rfl, ⟨by omega, by omega⟩, fun x h => (wC x h).sm, fun x h => (wR x h).sm, hm2.1, hm2.2.sm, (wB v2 hv2).sm, ?_⟩
                exact ⟨rfl, q _⟩
end K07
namespace K07
open PySem PySem.Spec PyProof.Rows L2 DL
def spLaw (K : PySem.W.Frag) : Sp := fun vs H Q _ => ∃ (a : Addr) (ns : List Int), vs = [.ref a] ∧ SqL K H a (ns.map V.int) ∧ ns.length ≤ 63 ∧ ∀ H', Q (.bl true) H'
theorem law_sp {K : PySem.W.Frag} {vs : List V} {H : Hp} {Q : VK} {E : XK} (h : spLaw K vs H Q E) : spD K fs_law vs H Q E := by
  obtain ⟨a, ns, rfl, hS, hl, q⟩ := h
  refine ⟨H, [.sh (.rol (ns.map P.int))], fun _ => [], fun d _ => d = .sh (.bl true), ?_, ⟨ns, rfl, hl, fun _ => rfl⟩, ?_⟩
  · refine ⟨Ex.refl _, fun i d e => ?_, fun _ _ => rfl, fun _ => List.nodup_nil, fun _ _ _ h => absurd h List.not_mem_nil, fun _ _ h => absurd h List.not_mem_nil, rfl⟩
    cases i with
    | zero =>
      cases e
      exact ⟨_, rfl, rfl, a, _, rfl, hS, RpA.ints⟩
    | succ i => cases e
  · rintro d ds v F B' H' G' rfl _ o _
    rw [show v = V.bl true from o.rp.2]
    exact q H'
theorem all_mk {l : PySem.W.OpenLaw} {w : World} {K : PySem.W.Frag} {h : Heap} {mg : Str → Option Value} {fa : Addr} (X : K.In h) (G : h.Ns mainGlobals mg) (hfa : mg "law" = some (.ref fa))
    {od0 an0 : Option Addr} {sl0 : Array (Option Value)} {oc0 kV0 dc0 pm0 cd0 ct0 : Value} {f0 : Addr}
    {od1 an1 : Option Addr} {sl1 : Array (Option Value)} {oc1 kV1 dc1 pm1 cd1 ct1 : Value} {f1 : Addr}
    {od2 an2 : Option Addr} {sl2 : Array (Option Value)} {oc2 kV2 dc2 pm2 cd2 ct2 : Value} {f2 : Addr}
    {od3 an3 : Option Addr} {sl3 : Array (Option Value)} {oc3 kV3 dc3 pm3 cd3 ct3 : Value} {f3 : Addr}
    {od4 an4 : Option Addr} {sl4 : Array (Option Value)} {oc4 kV4 dc4 pm4 cd4 ct4 : Value} {f4 : Addr}
    {od5 an5 : Option Addr} {sl5 : Array (Option Value)} {oc5 kV5 dc5 pm5 cd5 ct5 : Value} {f5 : Addr}
    {od6 an6 : Option Addr} {sl6 : Array (Option Value)} {oc6 kV6 dc6 pm6 cd6 ct6 : Value} {f6 : Addr}
    {od7 an7 : Option Addr} {sl7 : Array (Option Value)} {oc7 kV7 dc7 pm7 cd7 ct7 : Value} {f7 : Addr}
    {od8 an8 : Option Addr} {sl8 : Array (Option Value)} {oc8 kV8 dc8 pm8 cd8 ct8 : Value} {f8 : Addr}
    {od9 an9 : Option Addr} {sl9 : Array (Option Value)} {oc9 kV9 dc9 pm9 cd9 ct9 : Value} {f9 : Addr}
    {od10 an10 : Option Addr} {sl10 : Array (Option Value)} {oc10 kV10 dc10 pm10 cd10 ct10 : Value} {f10 : Addr}
    {od11 an11 : Option Addr} {sl11 : Array (Option Value)} {oc11 kV11 dc11 pm11 cd11 ct11 : Value} {f11 : Addr}
    {od12 an12 : Option Addr} {sl12 : Array (Option Value)} {oc12 kV12 dc12 pm12 cd12 ct12 : Value} {f12 : Addr}
    {od13 an13 : Option Addr} {sl13 : Array (Option Value)} {oc13 kV13 dc13 pm13 cd13 ct13 : Value} {f13 : Addr}
    {od14 an14 : Option Addr} {sl14 : Array (Option Value)} {oc14 kV14 dc14 pm14 cd14 ct14 : Value} {f14 : Addr}
    {od15 an15 : Option Addr} {sl15 : Array (Option Value)} {oc15 kV15 dc15 pm15 cd15 ct15 : Value} {f15 : Addr}
    (a0 : PySem.W.nsIn K mainGlobals "combine" = some (some (.ref f0))) (l0 : K.lookup f0 = some ⟨oc0, od0, .func (PySem.W.fnOf "combine" "combine" (defArgs s_combine) (defBody s_combine) (defScope s_combine) .none kV0 dc0 pm0 an0 cd0 ct0), sl0⟩) (c0 : PySem.W.codeIn K cd0 "combine" = true) (k0 : PySem.W.keepIn K (.ref f0) = true)
    (a1 : PySem.W.nsIn K mainGlobals "total_of" = some (some (.ref f1))) (l1 : K.lookup f1 = some ⟨oc1, od1, .func (PySem.W.fnOf "total_of" "total_of" (defArgs s_total_of) (defBody s_total_of) (defScope s_total_of) .none kV1 dc1 pm1 an1 cd1 ct1), sl1⟩) (c1 : PySem.W.codeIn K cd1 "total_of" = true) (k1 : PySem.W.keepIn K (.ref f1) = true)
    (a2 : PySem.W.nsIn K mainGlobals "_law_cell" = some (some (.ref f2))) (l2 : K.lookup f2 = some ⟨oc2, od2, .func (PySem.W.fnOf "_law_cell" "_law_cell" (defArgs s__law_cell) (defBody s__law_cell) (defScope s__law_cell) .none kV2 dc2 pm2 an2 cd2 ct2), sl2⟩) (c2 : PySem.W.codeIn K cd2 "_law_cell" = true) (k2 : PySem.W.keepIn K (.ref f2) = true)
    (a3 : PySem.W.nsIn K mainGlobals "_law_draws" = some (some (.ref f3))) (l3 : K.lookup f3 = some ⟨oc3, od3, .func (PySem.W.fnOf "_law_draws" "_law_draws" (defArgs s__law_draws) (defBody s__law_draws) (defScope s__law_draws) .none kV3 dc3 pm3 an3 cd3 ct3), sl3⟩) (c3 : PySem.W.codeIn K cd3 "_law_draws" = true) (k3 : PySem.W.keepIn K (.ref f3) = true)
    (a4 : PySem.W.nsIn K mainGlobals "_law_take" = some (some (.ref f4))) (l4 : K.lookup f4 = some ⟨oc4, od4, .func (PySem.W.fnOf "_law_take" "_law_take" (defArgs s__law_take) (defBody s__law_take) (defScope s__law_take) .none kV4 dc4 pm4 an4 cd4 ct4), sl4⟩) (c4 : PySem.W.codeIn K cd4 "_law_take" = true) (k4 : PySem.W.keepIn K (.ref f4) = true)
    (a5 : PySem.W.nsIn K mainGlobals "_law_int" = some (some (.ref f5))) (l5 : K.lookup f5 = some ⟨oc5, od5, .func (PySem.W.fnOf "_law_int" "_law_int" (defArgs s__law_int) (defBody s__law_int) (defScope s__law_int) .none kV5 dc5 pm5 an5 cd5 ct5), sl5⟩) (c5 : PySem.W.codeIn K cd5 "_law_int" = true) (k5 : PySem.W.keepIn K (.ref f5) = true)
    (a6 : PySem.W.nsIn K mainGlobals "_law_number" = some (some (.ref f6))) (l6 : K.lookup f6 = some ⟨oc6, od6, .func (PySem.W.fnOf "_law_number" "_law_number" (defArgs s__law_number) (defBody s__law_number) (defScope s__law_number) .none kV6 dc6 pm6 an6 cd6 ct6), sl6⟩) (c6 : PySem.W.codeIn K cd6 "_law_number" = true) (k6 : PySem.W.keepIn K (.ref f6) = true)
    (a7 : PySem.W.nsIn K mainGlobals "_law_combined" = some (some (.ref f7))) (l7 : K.lookup f7 = some ⟨oc7, od7, .func (PySem.W.fnOf "_law_combined" "_law_combined" (defArgs s__law_combined) (defBody s__law_combined) (defScope s__law_combined) .none kV7 dc7 pm7 an7 cd7 ct7), sl7⟩) (c7 : PySem.W.codeIn K cd7 "_law_combined" = true) (k7 : PySem.W.keepIn K (.ref f7) = true)
    (a8 : PySem.W.nsIn K mainGlobals "_law_handed" = some (some (.ref f8))) (l8 : K.lookup f8 = some ⟨oc8, od8, .func (PySem.W.fnOf "_law_handed" "_law_handed" (defArgs s__law_handed) (defBody s__law_handed) (defScope s__law_handed) .none kV8 dc8 pm8 an8 cd8 ct8), sl8⟩) (c8 : PySem.W.codeIn K cd8 "_law_handed" = true) (k8 : PySem.W.keepIn K (.ref f8) = true)
    (a9 : PySem.W.nsIn K mainGlobals "keeps" = some (some (.ref f9))) (l9 : K.lookup f9 = some ⟨oc9, od9, .func (PySem.W.fnOf "keeps" "keeps" (defArgs s_keeps) (defBody s_keeps) (defScope s_keeps) .none kV9 dc9 pm9 an9 cd9 ct9), sl9⟩) (c9 : PySem.W.codeIn K cd9 "keeps" = true) (k9 : PySem.W.keepIn K (.ref f9) = true)
    (a10 : PySem.W.nsIn K mainGlobals "_law_is_row" = some (some (.ref f10))) (l10 : K.lookup f10 = some ⟨oc10, od10, .func (PySem.W.fnOf "_law_is_row" "_law_is_row" (defArgs s__law_is_row) (defBody s__law_is_row) (defScope s__law_is_row) .none kV10 dc10 pm10 an10 cd10 ct10), sl10⟩) (c10 : PySem.W.codeIn K cd10 "_law_is_row" = true) (k10 : PySem.W.keepIn K (.ref f10) = true)
    (a11 : PySem.W.nsIn K mainGlobals "_law_huge" = some (some (.ref f11))) (l11 : K.lookup f11 = some ⟨oc11, od11, .func (PySem.W.fnOf "_law_huge" "_law_huge" (defArgs s__law_huge) (defBody s__law_huge) (defScope s__law_huge) .none kV11 dc11 pm11 an11 cd11 ct11), sl11⟩) (c11 : PySem.W.codeIn K cd11 "_law_huge" = true) (k11 : PySem.W.keepIn K (.ref f11) = true)
    (a12 : PySem.W.nsIn K mainGlobals "_law_row" = some (some (.ref f12))) (l12 : K.lookup f12 = some ⟨oc12, od12, .func (PySem.W.fnOf "_law_row" "_law_row" (defArgs s__law_row) (defBody s__law_row) (defScope s__law_row) .none kV12 dc12 pm12 an12 cd12 ct12), sl12⟩) (c12 : PySem.W.codeIn K cd12 "_law_row" = true) (k12 : PySem.W.keepIn K (.ref f12) = true)
    (a13 : PySem.W.nsIn K mainGlobals "_law_combines" = some (some (.ref f13))) (l13 : K.lookup f13 = some ⟨oc13, od13, .func (PySem.W.fnOf "_law_combines" "_law_combines" (defArgs s__law_combines) (defBody s__law_combines) (defScope s__law_combines) .none kV13 dc13 pm13 an13 cd13 ct13), sl13⟩) (c13 : PySem.W.codeIn K cd13 "_law_combines" = true) (k13 : PySem.W.keepIn K (.ref f13) = true)
    (a14 : PySem.W.nsIn K mainGlobals "_law_keeping" = some (some (.ref f14))) (l14 : K.lookup f14 = some ⟨oc14, od14, .func (PySem.W.fnOf "_law_keeping" "_law_keeping" (defArgs s__law_keeping) (defBody s__law_keeping) (defScope s__law_keeping) .none kV14 dc14 pm14 an14 cd14 ct14), sl14⟩) (c14 : PySem.W.codeIn K cd14 "_law_keeping" = true) (k14 : PySem.W.keepIn K (.ref f14) = true)
    (a15 : PySem.W.nsIn K mainGlobals "law" = some (some (.ref f15))) (l15 : K.lookup f15 = some ⟨oc15, od15, .func (PySem.W.fnOf "law" "law" (defArgs s_law) (defBody s_law) (defScope s_law) .none kV15 dc15 pm15 an15 cd15 ct15), sl15⟩) (c15 : PySem.W.codeIn K cd15 "law" = true) (k15 : PySem.W.keepIn K (.ref f15) = true)
    (z_zip : PySem.W.nsIn K mainGlobals "zip" = some none)
    (z_tuple : PySem.W.nsIn K mainGlobals "tuple" = some none)
    (z_range : PySem.W.nsIn K mainGlobals "range" = some none)
    (z_sum : PySem.W.nsIn K mainGlobals "sum" = some none)
    (z_len : PySem.W.nsIn K mainGlobals "len" = some none)
    (z_int : PySem.W.nsIn K mainGlobals "int" = some none)
    (z_abs : PySem.W.nsIn K mainGlobals "abs" = some none)
    (z_isinstance : PySem.W.nsIn K mainGlobals "isinstance" = some none)
    (z_bool : PySem.W.nsIn K mainGlobals "bool" = some none)
    (z_list : PySem.W.nsIn K mainGlobals "list" = some none) :
    ∃ fd : FuncData, (∀ (s : Shared) (v : Value), BindsTo s fd ⟨[v], []⟩ [("script", v)]) ∧ ∀ base : Heap, K.In base → base.Ns mainGlobals mg → FnOk l.prog w K mg base CX0 4 fa fd ["script"] (spLaw K) := by
  have e := hfa.symm.trans (PySem.W.mg_of X G a15)
  cases e
  have F0 := fun_mk (st := s_combine) l0 c0 k0
  have F1 := fun_mk (st := s_total_of) l1 c1 k1
  have F2 := fun_mk (st := s__law_cell) l2 c2 k2
  have F3 := fun_mk (st := s__law_draws) l3 c3 k3
  have F4 := fun_mk (st := s__law_take) l4 c4 k4
  have F5 := fun_mk (st := s__law_int) l5 c5 k5
  have F6 := fun_mk (st := s__law_number) l6 c6 k6
  have F7 := fun_mk (st := s__law_combined) l7 c7 k7
  have F8 := fun_mk (st := s__law_handed) l8 c8 k8
  have F9 := fun_mk (st := s_keeps) l9 c9 k9
  have F10 := fun_mk (st := s__law_is_row) l10 c10 k10
  have F11 := fun_mk (st := s__law_huge) l11 c11 k11
  have F12 := fun_mk (st := s__law_row) l12 c12 k12
  have F13 := fun_mk (st := s__law_combines) l13 c13 k13
  have F14 := fun_mk (st := s__law_keeping) l14 c14 k14
  have F15 := fun_mk (st := s_law) l15 c15 k15
  have m_zip := PySem.W.mg_none_of X G z_zip
  have m_tuple := PySem.W.mg_none_of X G z_tuple
  have m_range := PySem.W.mg_none_of X G z_range
  have m_sum := PySem.W.mg_none_of X G z_sum
  have m_len := PySem.W.mg_none_of X G z_len
  have m_int := PySem.W.mg_none_of X G z_int
  have m_abs := PySem.W.mg_none_of X G z_abs
  have m_isinstance := PySem.W.mg_none_of X G z_isinstance
  have m_bool := PySem.W.mg_none_of X G z_bool
  have m_list := PySem.W.mg_none_of X G z_list
  have g0 := PySem.W.mg_of X G a0
  have g1 := PySem.W.mg_of X G a1
  have g2 := PySem.W.mg_of X G a2
  have g3 := PySem.W.mg_of X G a3
  have g4 := PySem.W.mg_of X G a4
  have g5 := PySem.W.mg_of X G a5
  have g6 := PySem.W.mg_of X G a6
  have g7 := PySem.W.mg_of X G a7
  have g8 := PySem.W.mg_of X G a8
  have g9 := PySem.W.mg_of X G a9
  have g10 := PySem.W.mg_of X G a10
  have g11 := PySem.W.mg_of X G a11
  have g12 := PySem.W.mg_of X G a12
  have g13 := PySem.W.mg_of X G a13
  have g14 := PySem.W.mg_of X G a14
  have g15 := PySem.W.mg_of X G a15
  refine' ⟨_, ?_, fun base _ _ => ?_⟩
  rotate_left 2
  have C_combine : DL.CalleeK l.prog w K mg base 1 "combine" f0 _ ["rows", "factors", "width"] ["width"] 2 1 fs_combine := ⟨ok_combine (Pg := l.prog) (w := w) (base := base) F0 m_zip m_tuple m_range, g0, k0, Fun.kbinds F0 rfl (by decide) fun _ _ _ _ _ _ us ws h1 h2 => match us, ws, h1, h2 with | [_, _], [_], _, _ => rfl⟩
  have C_total_of : DL.Callee l.prog w K mg base 1 "total_of" f1 _ ["coefs", "row"] fs_total_of := ⟨ok_total_of (Pg := l.prog) (w := w) (base := base) F1 m_sum m_zip, g1, k1, F1.binds fun _ _ _ _ _ _ us hl => match us, hl with | [_, _], _ => rfl⟩
  have C__law_cell : DL.Callee l.prog w K mg base 1 "_law_cell" f2 _ ["script", "k"] fs__law_cell := ⟨ok__law_cell (Pg := l.prog) (w := w) (base := base) F2 m_len m_int, g2, k2, F2.binds fun _ _ _ _ _ _ us hl => match us, hl with | [_, _], _ => rfl⟩
  have C__law_draws : DL.Callee l.prog w K mg base 1 "_law_draws" f3 _ ["cell", "many"] fs__law_draws := ⟨ok__law_draws (Pg := l.prog) (w := w) (base := base) F3 m_abs m_range m_int, g3, k3, F3.binds fun _ _ _ _ _ _ us hl => match us, hl with | [_, _], _ => rfl⟩
  have C__law_take : DL.Callee l.prog w K mg base 1 "_law_take" f4 _ ["draws", "place"] fs__law_take := ⟨ok__law_take (Pg := l.prog) (w := w) (base := base) F4 m_len, g4, k4, F4.binds fun _ _ _ _ _ _ us hl => match us, hl with | [_, _], _ => rfl⟩
  have C__law_int : DL.Callee l.prog w K mg base 1 "_law_int" f5 _ ["value"] fs__law_int := ⟨ok__law_int (Pg := l.prog) (w := w) (base := base) F5 m_isinstance m_int m_bool, g5, k5, F5.binds fun _ _ _ _ _ _ us hl => match us, hl with | [_], _ => rfl⟩
  have C__law_number : DL.Callee l.prog w K mg base 1 "_law_number" f6 _ ["draw"] fs__law_number := ⟨ok__law_number (Pg := l.prog) (w := w) (base := base) F6 m_range m_int, g6, k6, F6.binds fun _ _ _ _ _ _ us hl => match us, hl with | [_], _ => rfl⟩
  have C__law_combined : DL.Callee l.prog w K mg base 1 "_law_combined" f7 _ ["rows", "factors", "own_width"] fs__law_combined := ⟨ok__law_combined (Pg := l.prog) (w := w) (base := base) F7 m_range m_len, g7, k7, F7.binds fun _ _ _ _ _ _ us hl => match us, hl with | [_, _, _], _ => rfl⟩
  have C__law_handed : DL.Callee l.prog w K mg base 1 "_law_handed" f8 _ ["rows", "listed"] fs__law_handed := ⟨ok__law_handed (Pg := l.prog) (w := w) (base := base) F8 m_tuple m_list, g8, k8, F8.binds fun _ _ _ _ _ _ us hl => match us, hl with | [_, _], _ => rfl⟩
  have C_keeps : DL.Callee l.prog w K mg base 2 "keeps" f9 _ ["row", "claim"] fs_keeps := ⟨ok_keeps (Pg := l.prog) (w := w) (base := base) F9 C_total_of, g9, k9, F9.binds fun _ _ _ _ _ _ us hl => match us, hl with | [_, _], _ => rfl⟩
  have C__law_is_row : DL.Callee l.prog w K mg base 2 "_law_is_row" f10 _ ["value", "own_width"] fs__law_is_row := ⟨ok__law_is_row (Pg := l.prog) (w := w) (base := base) F10 m_isinstance m_tuple m_len C__law_int, g10, k10, F10.binds fun _ _ _ _ _ _ us hl => match us, hl with | [_, _], _ => rfl⟩
  have C__law_huge : DL.Callee l.prog w K mg base 2 "_law_huge" f11 _ ["cell"] fs__law_huge := ⟨ok__law_huge (Pg := l.prog) (w := w) (base := base) F11 C__law_draws, g11, k11, F11.binds fun _ _ _ _ _ _ us hl => match us, hl with | [_], _ => rfl⟩
  have C__law_row : DL.Callee l.prog w K mg base 2 "_law_row" f12 _ ["draws", "place", "own_width"] fs__law_row := ⟨ok__law_row (Pg := l.prog) (w := w) (base := base) F12 m_range C__law_number C__law_take, g12, k12, F12.binds fun _ _ _ _ _ _ us hl => match us, hl with | [_, _, _], _ => rfl⟩
  have C__law_combines : DL.Callee l.prog w K mg base 3 "_law_combines" f13 _ ["rows", "factors", "own_width", "listed"] fs__law_combines := ⟨ok__law_combines (Pg := l.prog) (w := w) (base := base) F13 m_range m_list m_len C__law_handed C__law_combined C_combine C__law_is_row, g13, k13, F13.binds fun _ _ _ _ _ _ us hl => match us, hl with | [_, _, _, _], _ => rfl⟩
  have C__law_keeping : DL.Callee l.prog w K mg base 3 "_law_keeping" f14 _ ["row", "coefs", "modulus", "lead", "listed"] fs__law_keeping := ⟨ok__law_keeping (Pg := l.prog) (w := w) (base := base) F14 m_sum m_list m_range m_tuple m_len m_int m_isinstance m_bool C_keeps, g14, k14, F14.binds fun _ _ _ _ _ _ us hl => match us, hl with | [_, _, _, _, _], _ => rfl⟩
  exact (ok_law (Pg := l.prog) (w := w) (base := base) F15 m_int m_abs m_range C__law_draws C__law_row C__law_huge C__law_keeping C__law_cell C__law_combines C__law_number).imp fun vs H Q E h => law_sp h
  exact fun s v => .of_eq rfl
end K07
open PySem PySem.W PyProof.Rows
set_option maxHeartbeats 0 in
theorem PySem.Challenge.cw_signedpacts_k07_combine_and_keeps_holds : PySem.Challenge.rw_signedpacts_k07_combine_and_keeps.Holds := by
  w_on; o_law; k_head; (case hw => w_witness2)
  k_fill
  refine L2.walk_of (l := PySem.Challenge.rw_signedpacts_k07_combine_and_keeps) (n := 63) (k := 4) (x := "script") (CX := fun _ => L2.CX0) (sp := fun w => K07.spLaw _) rfl (by decide) rfl ⟨rfl, by decide, by decide⟩ (fun w h Y => PySem.W.kIn_of Y) ?F (fun _ _ a ns hl _ hS => ⟨a, ns, rfl, hS, hl, fun _ => rfl⟩) (fun _ _ _ _ _ h => h)
  case F =>
    intro w mg fa h KX G hmg
    refine' K07.all_mk KX G hmg ?a0 ?l0 ?c0 ?k0 ?a1 ?l1 ?c1 ?k1 ?a2 ?l2 ?c2 ?k2 ?a3 ?l3 ?c3 ?k3 ?a4 ?l4 ?c4 ?k4 ?a5 ?l5 ?c5 ?k5 ?a6 ?l6 ?c6 ?k6 ?a7 ?l7 ?c7 ?k7 ?a8 ?l8 ?c8 ?k8 ?a9 ?l9 ?c9 ?k9 ?a10 ?l10 ?c10 ?k10 ?a11 ?l11 ?c11 ?k11 ?a12 ?l12 ?c12 ?k12 ?a13 ?l13 ?c13 ?k13 ?a14 ?l14 ?c14 ?k14 ?a15 ?l15 ?c15 ?k15 ?z_zip ?z_tuple ?z_range ?z_sum ?z_len ?z_int ?z_abs ?z_isinstance ?z_bool ?z_list
    (case a0 => k_is); (case l0 => k_is); (case c0 => k_is); (case k0 => k_is); (case a1 => k_is); (case l1 => k_is); (case c1 => k_is); (case k1 => k_is); (case a2 => k_is); (case l2 => k_is); (case c2 => k_is); (case k2 => k_is); (case a3 => k_is); (case l3 => k_is); (case c3 => k_is); (case k3 => k_is); (case a4 => k_is); (case l4 => k_is); (case c4 => k_is); (case k4 => k_is); (case a5 => k_is); (case l5 => k_is); (case c5 => k_is); (case k5 => k_is); (case a6 => k_is); (case l6 => k_is); (case c6 => k_is); (case k6 => k_is); (case a7 => k_is); (case l7 => k_is); (case c7 => k_is); (case k7 => k_is); (case a8 => k_is); (case l8 => k_is); (case c8 => k_is); (case k8 => k_is); (case a9 => k_is); (case l9 => k_is); (case c9 => k_is); (case k9 => k_is); (case a10 => k_is); (case l10 => k_is); (case c10 => k_is); (case k10 => k_is); (case a11 => k_is); (case l11 => k_is); (case c11 => k_is); (case k11 => k_is); (case a12 => k_is); (case l12 => k_is); (case c12 => k_is); (case k12 => k_is); (case a13 => k_is); (case l13 => k_is); (case c13 => k_is); (case k13 => k_is); (case a14 => k_is); (case l14 => k_is); (case c14 => k_is); (case k14 => k_is); (case a15 => k_is); (case l15 => k_is); (case c15 => k_is); (case k15 => k_is); (case z_zip => k_is); (case z_tuple => k_is); (case z_range => k_is); (case z_sum => k_is); (case z_len => k_is); (case z_int => k_is); (case z_abs => k_is); (case z_isinstance => k_is); (case z_bool => k_is); (case z_list => k_is)

