package wait

import "testing"

// P11.3: no more than 2^30 looks are counted, and one who waits so long goes on as ahead of that. (From outside it would take as many calls.)
func TestMostLooks(t *testing.T) {
	for _, w := range []Way{{}, {Kind: Yield, Tries: 1000}, {Kind: Block}, {Kind: Timed, Time: 1 << 30}} {
		p := w.Begin(0)
		p.tries = 1<<30 - 3
		for i, want := range []int{1<<30 - 2, 1<<30 - 1, 1 << 30, 1 << 30, 1 << 30} {
			q, act := p.Vain(1)
			if q.Tries() != want || act != w.Next(1<<30, i%2 == 1, 1, 1<<30) {
				t.Fatal(w, i, q.Tries(), act)
			}
			p = q
		}
	}
}
