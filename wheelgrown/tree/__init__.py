"""Parts of webs: rings, bundles and held parts, and how they are joined."""
