package pack

import (
	"weft/api"
	"weft/attr"
	"weft/update"
)

// Unpack answers what bodies of updates tell, and the worst class of what is wrong with one.
func Unpack(l [][]byte) ([]api.Item, int) {
	var out []api.Item
	worst := api.Fine
	for _, b := range l {
		u, class, _ := update.Read(b) // with Reset the update says nothing
		out = append(out, items(u)...)
		worst = max(worst, class)
	}
	return out, worst
}

// items answers what an update tells. Each item has attributes of its own: they are handed out.
func items(u api.Update) []api.Item {
	var out []api.Item
	for _, r := range u.Unreach {
		out = append(out, api.Item{Route: r, Gone: true})
	}
	for _, r := range u.Reach {
		out = append(out, api.Item{Route: r, Attrs: attr.Copy(u.Attrs), Next: u.Next})
	}
	return out
}
